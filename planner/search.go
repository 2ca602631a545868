package planner

import (
	"iter"
	"math"
	"slices"

	"timbre/api"
	"timbre/chirp"
	"timbre/order"
	"timbre/primes"
)

// search looks for orders by one good policy, and keeps the cheapest ones that it has found, by their lengths.
type search struct {
	policy api.Policy
	found  map[int]api.Order
}

func newSearch(p api.Policy) *search {
	return &search{policy: p, found: map[int]api.Order{}}
}

// all goes over the orders of n.
func (s *search) all(n int) iter.Seq[api.Order] { return s.orders(n, s.all) }

// cheapest is the order of n with the least cost, the first of several such; every length that is asked for has one.
func (s *search) cheapest(n int) api.Order {
	if o, ok := s.found[n]; ok {
		return o
	}
	var best api.Order
	least := math.MaxInt
	// Of the products that differ in their second part alone the one with the cheapest part is the cheapest, and the first such part makes the first such product: no other part needs a look.
	for o := range s.orders(n, s.onlyCheapest) {
		if c := measure(o).cost; c < least {
			best, least = o, c
		}
	}
	s.found[n] = best
	return best
}

func (s *search) onlyCheapest(n int) iter.Seq[api.Order] {
	return func(yield func(api.Order) bool) { yield(s.cheapest(n)) }
}

// orders goes over the orders of n, in their order, with those products alone whose second part is among seconds of its length. Each is new memory, since layer 12 copies what it makes an order of.
func (s *search) orders(n int, seconds func(int) iter.Seq[api.Order]) iter.Seq[api.Order] {
	return func(yield func(api.Order) bool) {
		for _, leaf := range s.leaves(n) {
			if !yield(leaf) {
				return
			}
		}
		for a := range primes.Divisors(n) {
			if a > 1 && a < n && !tellProducts(s.leaves(a), seconds(n/a), yield) {
				return
			}
		}
		if m := s.inner(n); m > 0 {
			yield(order.Blue(n, s.cheapest(m)))
		}
	}
}

// leaves are the orders of n that are not taken apart, which are those that may be a product's first part too.
func (s *search) leaves(n int) []api.Order {
	var out []api.Order
	if n <= s.policy.Direct {
		out = append(out, order.Direct(n))
	}
	if slices.Contains(s.policy.Flies, n) {
		out = append(out, order.Fly(n))
	}
	return out
}

// tellProducts tells whether it may go on behind these products.
func tellProducts(firsts []api.Order, seconds iter.Seq[api.Order], yield func(api.Order) bool) bool {
	for _, a := range firsts {
		for b := range seconds {
			if !yield(order.Times(a, b)) {
				return false
			}
		}
	}
	return true
}

// inner is the length of the inner transform by which n may be done in Bluestein's way; 0, if it may not. It is a power of two, which never needs that way itself.
func (s *search) inner(n int) int {
	factors := primes.Factors(n)
	if len(factors) == 0 || factors[len(factors)-1] <= s.policy.Prime {
		return 0
	}
	m, err := chirp.Size(n)
	if err != nil { // no power of two within MaxInner will do
		return 0
	}
	return m
}
