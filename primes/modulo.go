package primes

import (
	"math/bits"

	"timbre/api"
)

// Mul is a times b modulo m; 0, if m is 0.
func Mul(a, b, m uint64) uint64 {
	if m == 0 {
		return 0
	}
	high, low := bits.Mul64(a, b)
	return bits.Rem64(high, low, m)
}

// Pow is a to the power e modulo m; 0, if m is 0.
func Pow(a, e, m uint64) uint64 {
	out := Mul(1, 1, m) // the power 0: 0 modulo 1
	for ; e > 0; e >>= 1 {
		if e&1 == 1 {
			out = Mul(out, a, m)
		}
		a = Mul(a, a, m)
	}
	return out
}

// Inverse is the number below m of which a times it is 1 modulo m; it refuses an a that has a divisor above 1 in common with m, and an m of 0.
func Inverse(a, m uint64) (uint64, error) {
	if m == 0 {
		return 0, api.ErrRoot
	}
	// Euclid's way; rest is a times x modulo m all along, and next is a times y.
	rest, x := m, uint64(0)
	next, y := a%m, uint64(1)
	for next != 0 {
		q := rest / next
		rest, next = next, rest-q*next
		x, y = y, less(x, Mul(q, y, m), m)
	}
	if rest != 1 {
		return 0, api.ErrRoot
	}
	return x, nil
}

// less is a minus b modulo m, of numbers below m.
func less(a, b, m uint64) uint64 {
	if a < b {
		return m - (b - a)
	}
	return a - b
}

// Join is the number below m times n that leaves a modulo m, and b modulo n; it refuses an m or n of 0, a product beyond uint64, and m and n that have a divisor above 1 in common.
func Join(a, m, b, n uint64) (uint64, error) {
	if m == 0 || n == 0 {
		return 0, api.ErrRange
	}
	if high, _ := bits.Mul64(m, n); high != 0 {
		return 0, api.ErrRange
	}
	inverse, err := Inverse(m, n)
	if err != nil {
		return 0, err
	}
	a %= m
	// a plus so many times m that b modulo n is met.
	times := Mul(less(b%n, a%n, n), inverse, n)
	return a + m*times, nil
}
