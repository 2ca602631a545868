package planner

import (
	"fmt"
	"hash/fnv"
	"iter"
	"math"
	"math/rand"
	"slices"
	"strings"
	"sync"
	"testing"

	"timbre/api"
	"timbre/order"
)

// model tells the orders of a length by a policy, as the chapter's four rules say, in lists.
type model struct {
	direct, prime int
	flies         []int
	cheap         map[int]api.Order
}

func newModel(p api.Policy) *model {
	return &model{p.Direct, p.Prime, slices.Clone(p.Flies), map[int]api.Order{}}
}

// list are the first orders of n, at most so many.
func (m *model) list(n, most int) []api.Order {
	var out []api.Order
	if n <= m.direct {
		out = append(out, api.Order{Kind: api.OrderDirect, N: n})
	}
	if slices.Contains(m.flies, n) {
		out = append(out, api.Order{Kind: api.OrderFly, N: n})
	}
	for a := 2; a < n && len(out) < most; a++ {
		if n%a != 0 {
			continue
		}
		for _, kind := range []int{api.OrderDirect, api.OrderFly} {
			if kind == api.OrderDirect && a > m.direct || kind == api.OrderFly && !slices.Contains(m.flies, a) {
				continue
			}
			for _, b := range m.list(n/a, most) {
				out = append(out, api.Order{Kind: api.OrderTimes, Kids: []api.Order{{Kind: kind, N: a}, b}})
			}
		}
	}
	if m.hasGreatPrime(n) {
		out = append(out, api.Order{Kind: api.OrderBlue, N: n, Kids: []api.Order{m.cheapest(powerFrom(2*n - 1))}})
	}
	return out[:min(len(out), most)]
}

func (m *model) hasGreatPrime(n int) bool {
	for d := m.prime + 1; d <= n; d++ {
		if n%d == 0 && isPrime(d) {
			return true
		}
	}
	return false
}

func isPrime(n int) bool {
	for d := 2; d*d <= n; d++ {
		if n%d == 0 {
			return false
		}
	}
	return n >= 2
}

func powerFrom(n int) int {
	m := 1
	for m < n {
		m *= 2
	}
	return m
}

// cheapest is the cheapest order of a power of two, by trying each first part with each cheapest second one.
func (m *model) cheapest(n int) api.Order {
	if o, ok := m.cheap[n]; ok {
		return o
	}
	var all []api.Order
	for _, o := range m.list(n, 2) { // the leaves, if there are any
		if len(o.Kids) == 0 {
			all = append(all, o)
		}
	}
	for a := 2; a < n; a *= 2 {
		if a <= m.direct {
			all = append(all, order.Times(order.Direct(a), m.cheapest(n/a)))
		}
		if slices.Contains(m.flies, a) {
			all = append(all, order.Times(order.Fly(a), m.cheapest(n/a)))
		}
	}
	m.cheap[n] = firstCheapest(all)
	return m.cheap[n]
}

func firstCheapest(list []api.Order) api.Order {
	best := list[0]
	for _, o := range list[1:] {
		if fullCost(o).Cmp(fullCost(best)) < 0 {
			best = o
		}
	}
	return best
}

// policies are good ones of many kinds.
func policies() []api.Policy {
	return []api.Policy{
		Usual(),
		{Direct: 2, Prime: 2},
		{Direct: 64, Prime: 64},
		{Direct: 64, Flies: []int{2, 3, 4, 5}, Prime: 2},
		{Direct: 5, Flies: []int{4}, Prime: 3},
		{Direct: 16, Flies: []int{2, 5}, Prime: 7},
		{Direct: 7, Flies: []int{3}, Prime: 7},
		{Direct: 64, Flies: []int{5}, Prime: 61},
		{Direct: 3, Flies: []int{2, 3, 4, 5}, Prime: 2},
		{Direct: 2, Flies: []int{5}, Prime: 2},
		{Direct: 12, Flies: []int{2, 3, 4, 5}, Prime: 11},
		{Direct: 2, Flies: []int{3}, Prime: 2},
		{Direct: 64, Flies: []int{2, 3, 4, 5}, Prime: 64},
	}
}

// somePolicy is a good policy of any kind.
func somePolicy(r *rand.Rand) api.Policy {
	p := api.Policy{Direct: 2 + r.Intn(63)}
	if r.Intn(2) == 0 {
		p.Direct = 2 + r.Intn(8)
	}
	p.Prime = 2 + r.Intn(p.Direct-1)
	for f := 2; f <= 5; f++ {
		if r.Intn(2) == 0 {
			p.Flies = append(p.Flies, f)
		}
	}
	return p
}

func TestUsual(t *testing.T) {
	p := Usual()
	if p.Direct != 16 || !slices.Equal(p.Flies, []int{2, 3, 4, 5}) || p.Prime != 13 || Check(p) != nil {
		t.Error("Usual is", p)
	}
	full := p.Flies[:cap(p.Flies)]
	for i := range full {
		full[i] = 9
	}
	if again := Usual(); !slices.Equal(again.Flies, []int{2, 3, 4, 5}) {
		t.Error("behind a write into the answer:", again)
	}
}

func TestCheckOfNumbers(t *testing.T) {
	numbers := []int{math.MinInt, math.MinInt + 1, -1 << 32, 1 << 32, 1<<32 + 5, math.MaxInt - 1, math.MaxInt}
	for n := -70; n <= 140; n++ {
		numbers = append(numbers, n)
	}
	for _, direct := range numbers {
		for _, prime := range numbers {
			var want error
			if direct < 2 || direct > 64 || prime < 2 || prime > direct {
				want = api.ErrRange
			}
			for _, flies := range [][]int{nil, {2, 3, 4, 5}} {
				if got := Check(api.Policy{Direct: direct, Flies: flies, Prime: prime}); got != want {
					t.Fatalf("Check of Direct %d, Prime %d: %v", direct, prime, got)
				}
			}
		}
	}
}

// goodFlies are the lists of butterflies that a good policy may have.
func goodFlies() [][]int {
	var out [][]int
	for set := range 16 {
		var list []int
		for r := 2; r <= 5; r++ {
			if set>>(r-2)&1 == 1 {
				list = append(list, r)
			}
		}
		out = append(out, list)
	}
	return out
}

func TestCheckOfFlies(t *testing.T) {
	good := goodFlies()
	count := 0
	var try func(list []int)
	try = func(list []int) {
		var want error = api.ErrRange
		if slices.ContainsFunc(good, func(g []int) bool { return slices.Equal(g, list) }) {
			want = nil
			count++
		}
		if got := Check(api.Policy{Direct: 16, Flies: list, Prime: 13}); got != want {
			t.Fatalf("Check of Flies %v: %v", list, got)
		}
		if len(list) == 5 {
			return
		}
		for _, r := range []int{math.MinInt, -2, 0, 1, 2, 3, 4, 5, 6, math.MaxInt} {
			try(append(slices.Clone(list), r))
		}
	}
	try(nil)
	if count != 16 {
		t.Error("good lists:", count)
	}
	if Check(api.Policy{Direct: 16, Flies: []int{}, Prime: 13}) != nil {
		t.Error("Check of an empty list")
	}
	if Check(api.Policy{Direct: 16, Flies: make([]int, 1<<20), Prime: 13}) != api.ErrRange {
		t.Error("Check of a long list")
	}
}

func TestChooseOfTheExamples(t *testing.T) {
	for n, want := range map[int]string{
		1:    "d1",
		2:    "f2",
		3:    "f3",
		4:    "f4",
		5:    "f5",
		7:    "d7",
		8:    "(f2 x f4)",
		12:   "(f3 x f4)",
		17:   "b17((f4 x (f4 x f4)))",
		96:   "(f2 x (f3 x (f4 x f4)))",
		97:   "b97((f4 x (f4 x (f4 x f4))))",
		4096: "(f4 x (f4 x (f4 x (f4 x (f4 x f4)))))",
	} {
		if o, err := Choose(n, Usual()); err != nil || textOf(t, o) != want {
			t.Errorf("Choose(%d) is %v, %v, want %s", n, o, err, want)
		}
	}
}

func TestRefusals(t *testing.T) {
	bad := []api.Policy{
		{},
		{Direct: 1, Prime: 2},
		{Direct: 65, Prime: 2},
		{Direct: 5, Prime: 6},
		{Direct: 5, Prime: 1},
		{Direct: 5, Flies: []int{3, 2}, Prime: 5},
		{Direct: 5, Flies: []int{2, 2}, Prime: 5},
		{Direct: 5, Flies: []int{6}, Prime: 5},
		{Direct: 5, Flies: []int{1}, Prime: 5},
		{Direct: math.MinInt, Prime: math.MaxInt},
	}
	for _, n := range []int{0, -1, -4096, 4097, 8192, 16384, 1 << 32, 1<<32 + 4, math.MinInt, math.MaxInt} {
		for _, p := range append(policies(), bad...) {
			checkRefused(t, n, p, api.ErrLength)
		}
	}
	for _, n := range []int{1, 2, 5, 97, 4096} {
		for _, p := range bad {
			checkRefused(t, n, p, api.ErrRange)
		}
	}
}

func checkRefused(t *testing.T, n int, p api.Policy, want error) {
	t.Helper()
	if o, err := Choose(n, p); err != want || o.Kind != 0 || o.N != 0 || len(o.Kids) != 0 {
		t.Errorf("Choose(%d, %v) is %v, %v", n, p, o, err)
	}
	for o := range All(n, p) {
		t.Errorf("All(%d, %v) tells %v", n, p, o)
	}
}

func TestAllOfTheExamples(t *testing.T) {
	for _, c := range []struct {
		n    int
		p    api.Policy
		want string
	}{
		{1, Usual(), "d1"},
		{1, api.Policy{Direct: 2, Prime: 2}, "d1"},
		{2, Usual(), "d2; f2"},
		{4, Usual(), "d4; f4; (d2 x d2); (d2 x f2); (f2 x d2); (f2 x f2)"},
		{6, api.Policy{Direct: 2, Flies: []int{3}, Prime: 2}, "(d2 x f3); (d2 x b3((d2 x (d2 x d2)))); (f3 x d2); b6((d2 x (d2 x (d2 x d2))))"},
		// A sum and Bluestein's way, where both may be.
		{7, api.Policy{Direct: 16, Prime: 5}, "d7; b7((d4 x d4))"},
		{7, api.Policy{Direct: 16, Prime: 6}, "d7; b7((d4 x d4))"},
		{7, api.Policy{Direct: 16, Prime: 7}, "d7"},
		{17, Usual(), "b17((f4 x (f4 x f4)))"},
		{34, Usual(), "(d2 x b17((f4 x (f4 x f4)))); (f2 x b17((f4 x (f4 x f4)))); b34((f2 x (f4 x (f4 x f4))))"},
	} {
		var got []string
		for o := range All(c.n, c.p) {
			got = append(got, textOf(t, o))
		}
		if want := strings.Split(c.want, "; "); !slices.Equal(got, want) {
			t.Errorf("All(%d, %v): %q, want %q", c.n, c.p, got, want)
		}
	}
}

func same(a, b []api.Order) bool { return slices.EqualFunc(a, b, order.Same) }

// P14.1, of All.
func TestAllAgainstTheRules(t *testing.T) {
	for _, p := range policies() {
		m := newModel(p)
		for n := 1; n <= 120; n++ {
			checkAll(t, n, p, m)
		}
		for _, n := range []int{210, 255, 256, 257, 360, 1024, 1155, 2047, 2520, 3072, 3993, 4091, 4095, 4096} {
			checkAll(t, n, p, m)
		}
	}
}

func TestAllByAnyPolicies(t *testing.T) {
	r := rand.New(rand.NewSource(1))
	for range 300 {
		p := somePolicy(r)
		m := newModel(p)
		checkAll(t, 1+r.Intn(100), p, m)
		checkAll(t, 1+r.Intn(4096), p, m)
	}
}

func checkAll(t *testing.T, n int, p api.Policy, m *model) {
	t.Helper()
	got, want := slices.Collect(All(n, p)), m.list(n, api.MaxOrders)
	if !same(got, want) {
		t.Fatalf("All(%d, %v) tells %d orders, want %d, or others", n, p, len(got), len(want))
	}
}

func TestAllStopsAtItsBound(t *testing.T) {
	met := map[bool]int{}
	for _, p := range []api.Policy{Usual(), {Direct: 64, Flies: []int{2, 3, 4, 5}, Prime: 2}, {Direct: 5, Flies: []int{4}, Prime: 3}} {
		m := newModel(p)
		for n := 8; n <= 1024; n += 8 {
			full := len(m.list(n, 2*api.MaxOrders))
			if full < api.MaxOrders/2 {
				continue
			}
			count := 0
			for range All(n, p) {
				count++
			}
			if count != min(full, api.MaxOrders) {
				t.Errorf("All(%d, %v) tells %d of %d", n, p, count, full)
			}
			met[full > api.MaxOrders]++
		}
	}
	if met[true] == 0 || met[false] == 0 {
		t.Error("lengths with more orders, and with fewer:", met)
	}
}

func TestAllOfJustAsManyAsItsBound(t *testing.T) {
	// Twelve leaves, each of them d2 or f2.
	got := slices.Collect(All(4096, api.Policy{Direct: 2, Flies: []int{2}, Prime: 2}))
	if len(got) != api.MaxOrders {
		t.Fatal("orders:", len(got))
	}
	for i, o := range got {
		at := 0
		for leaf := range order.Leaves(o) {
			if want := api.OrderDirect + i>>(11-at)&1; leaf.Kind != want || leaf.N != 2 {
				t.Fatalf("the order %d is %v", i, o)
			}
			at++
		}
		if at != 12 {
			t.Fatalf("the order %d has %d leaves", i, at)
		}
	}
}

// P14.2.
func TestChooseIsTheFirstOfTheCheapest(t *testing.T) {
	check := func(n int, p api.Policy) {
		t.Helper()
		all := newModel(p).list(n, api.MaxOrders)
		if len(all) == api.MaxOrders {
			return
		}
		got, err := Choose(n, p)
		if want := firstCheapest(all); err != nil || !order.Same(got, want) {
			t.Fatalf("Choose(%d, %v) is %v, %v, want %v", n, p, got, err, want)
		}
		cost, err := Cost(got)
		if err != nil || order.Check(got) != nil || order.Length(got) != n {
			t.Fatalf("Choose(%d, %v) is %v", n, p, got)
		}
		met := false
		for o := range All(n, p) {
			met = met || order.Same(o, got)
			if c, err := Cost(o); err != nil || c < cost || c == cost && !met {
				t.Fatalf("Choose(%d, %v) is %v (%d), but there is %v (%d, %v)", n, p, got, cost, o, c, err)
			}
		}
		if !met {
			t.Fatalf("Choose(%d, %v) is %v, which isn't among All's", n, p, got)
		}
	}
	for _, p := range policies() {
		for n := 1; n <= 130; n++ {
			check(n, p)
		}
	}
	r := rand.New(rand.NewSource(2))
	for range 300 {
		check(1+r.Intn(300), somePolicy(r))
		check(1+r.Intn(4096), somePolicy(r))
	}
}

func TestTheFirstOfSeveralCheapest(t *testing.T) {
	ties := 0
	for _, p := range policies() {
		for n := 1; n <= 64; n++ {
			got, _ := Choose(n, p)
			cost, _ := Cost(got)
			behind := 0
			for o := range All(n, p) {
				if c, _ := Cost(o); c == cost {
					behind++
				}
			}
			if behind > 1 {
				ties++
			}
		}
	}
	if ties < 10 {
		t.Error("lengths with several cheapest orders:", ties)
	}
}

// hashOf is a sum over a text's bytes (FNV-1a, of 64 bits).
func hashOf(s string) uint64 {
	h := fnv.New64a()
	h.Write([]byte(s))
	return h.Sum64()
}

// What another program, written from the chapter alone, makes of these policies: the sum over the texts of the chosen orders of all lengths, what they cost together, and the sum over the texts of the orders of some.
func TestAgainstAnotherProgram(t *testing.T) {
	lengths := []int{60, 64, 96, 97, 120, 194, 210, 360, 720, 1024, 1155, 2048, 2310, 2520, 3072, 3600, 4091, 4095, 4096}
	for _, c := range []struct {
		direct int
		flies  []int
		prime  int
		chosen uint64
		costs  int
		all    uint64
	}{
		{16, []int{2, 3, 4, 5}, 13, 0x13504b633412ba25, 2811867602, 0x9bcdb3208b32afde},
		{2, []int{}, 2, 0x03f913e9ff5be53c, 15680891840, 0x7ab0bc39f6a1b808},
		{64, []int{}, 64, 0x42462b6668f054f4, 10025071929, 0xa42d24819de5cc45},
		{64, []int{2, 3, 4, 5}, 2, 0x31b65fd99434759b, 2774362828, 0x9897d89d6794da30},
		{5, []int{4}, 3, 0x296439fd036b144f, 3438621618, 0x31e4957f3c94beb8},
		{16, []int{2, 5}, 7, 0x1ca1d856159fa153, 3310128353, 0x68294018ec6f935c},
		{7, []int{3}, 7, 0x1d2a81b25ce9227a, 12450233111, 0x73175510eceb593f},
		{64, []int{5}, 61, 0xa8fcdca5fd540a80, 9978502255, 0x7059844f81745dc4},
		{3, []int{2, 3, 4, 5}, 2, 0x76f9fe87c4434fb7, 2951526446, 0x634d3a78377e3a44},
		{2, []int{5}, 2, 0xb175aa2b62d45954, 15107251338, 0x5fedca14bc9cec69},
		{12, []int{2, 3, 4, 5}, 11, 0xa93e264a23a180dc, 2841304548, 0x9b9d38e1eab9ab74},
	} {
		p := api.Policy{Direct: c.direct, Flies: c.flies, Prime: c.prime}
		var texts []string
		costs := 0
		for n := 1; n <= api.MaxLen; n++ {
			o, err := Choose(n, p)
			cost, costErr := Cost(o)
			if err != nil || costErr != nil {
				t.Fatalf("Choose(%d, %v): %v, %v", n, p, err, costErr)
			}
			texts = append(texts, textOf(t, o))
			costs += cost
		}
		if hashOf(strings.Join(texts, "\n")) != c.chosen || costs != c.costs {
			t.Errorf("by %v others are chosen; they cost %d, want %d", p, costs, c.costs)
		}
		var lines strings.Builder
		for n := 1; n <= 48; n++ {
			writeAll(t, &lines, n, p)
		}
		for _, n := range lengths {
			writeAll(t, &lines, n, p)
		}
		if hashOf(lines.String()) != c.all {
			t.Errorf("by %v All tells others", p)
		}
	}
}

func writeAll(t *testing.T, out *strings.Builder, n int, p api.Policy) {
	var texts []string
	for o := range All(n, p) {
		texts = append(texts, textOf(t, o))
	}
	fmt.Fprintf(out, "%d:%d:%s\n", n, len(texts), strings.Join(texts, "|"))
}

// P14.3.
func TestAllAreGoodAndDifferent(t *testing.T) {
	check := func(n int, p api.Policy) {
		t.Helper()
		met := map[string]int{}
		for o := range All(n, p) {
			if order.Check(o) != nil || order.Length(o) != n {
				t.Fatalf("All(%d, %v) tells %v", n, p, o)
			}
			met[textOf(t, o)]++
			for leaf := range order.Leaves(o) {
				if leaf.Kind == api.OrderDirect && leaf.N > p.Direct || leaf.Kind == api.OrderFly && !slices.Contains(p.Flies, leaf.N) {
					t.Fatalf("All(%d, %v) tells %v", n, p, o)
				}
			}
		}
		for s, often := range met {
			if often > 1 {
				t.Fatalf("All(%d, %v) tells %s %d times", n, p, s, often)
			}
		}
		if len(met) == 0 {
			t.Fatalf("All(%d, %v) tells nothing", n, p)
		}
	}
	for _, p := range policies() {
		for n := 1; n <= 100; n++ {
			check(n, p)
		}
		check(4096, p)
		check(3072, p)
		check(4095, p)
	}
}

// The deepest orders: as many levels as any policy makes.
func TestAllOfTheDeepest(t *testing.T) {
	deepest := 0
	for _, p := range []api.Policy{{Direct: 2, Prime: 2}, {Direct: 2, Flies: []int{5}, Prime: 2}, {Direct: 2, Flies: []int{2, 3, 4, 5}, Prime: 2}} {
		for n := 1; n <= api.MaxLen; n++ {
			for o := range All(n, p) {
				if order.Check(o) != nil {
					t.Fatalf("All(%d, %v) tells %v", n, p, o)
				}
				deepest = max(deepest, order.Depth(o))
				break
			}
		}
	}
	if deepest < 13 || deepest > 16 {
		t.Error("levels:", deepest)
	}
}

func TestEveryLengthHasAnOrderByEveryPolicy(t *testing.T) {
	r := rand.New(rand.NewSource(3))
	for range 20 {
		p := somePolicy(r)
		for n := 1; n <= api.MaxLen; n += 1 + r.Intn(7) {
			o, err := Choose(n, p)
			if err != nil || order.Length(o) != n {
				t.Fatalf("Choose(%d, %v) is %v, %v", n, p, o, err)
			}
		}
	}
}

func TestAllMayBeStoppedAndGoneOverAgain(t *testing.T) {
	for _, n := range []int{1, 12, 34, 97, 194, 4096} {
		seq := All(n, Usual())
		want := slices.Collect(seq)
		if again := slices.Collect(seq); !same(again, want) {
			t.Fatalf("of %d a second going over tells others", n)
		}
		for _, stop := range []int{1, 2, 3, 7, len(want) - 1, len(want)} {
			var got []api.Order
			for o := range seq {
				if len(got) >= stop {
					break
				}
				got = append(got, o)
			}
			if stop >= 0 && !same(got, want[:min(stop, len(want))]) {
				t.Fatalf("of %d, stopped behind %d: %v", n, stop, got)
			}
		}
		outer := 0
		for range seq {
			if outer++; outer > 3 {
				break
			}
			if got := slices.Collect(seq); !same(got, want) {
				t.Fatalf("of %d, gone over within: others", n)
			}
		}
	}
}

func TestAllIsNotAskedBehindItsEnd(t *testing.T) {
	for _, n := range []int{1, 4, 34, 360, 4096} {
		all := len(slices.Collect(All(n, Usual())))
		for _, stop := range []int{1, 2, all, all + 1} {
			calls := 0
			All(n, Usual())(func(api.Order) bool {
				calls++
				return calls < stop
			})
			if calls != min(stop, all) {
				t.Errorf("of %d, stopped at %d: told %d times", n, stop, calls)
			}
		}
	}
}

func TestAllInSeveralGoroutines(t *testing.T) {
	p := api.Policy{Direct: 4, Flies: []int{2, 3}, Prime: 2}
	seq := All(360, p)
	want := slices.Collect(seq)
	var group sync.WaitGroup
	for range 8 {
		group.Go(func() {
			if !same(slices.Collect(seq), want) {
				t.Error("a goroutine is told others")
			}
		})
	}
	group.Wait()
}

func TestAllTellsByThePolicyThatWas(t *testing.T) {
	flies := append(make([]int, 0, 4), 2, 3)
	p := api.Policy{Direct: 4, Flies: flies, Prime: 2}
	want := slices.Collect(All(60, p))
	seq := All(60, p)
	flies[0], flies[1] = 7, -1
	if got := slices.Collect(seq); !same(got, want) {
		t.Error("behind a write into the policy's list others are told")
	}
	flies[0], flies[1] = 2, 3
	var got []api.Order
	for o := range All(60, p) {
		flies[len(got)%2] = 5
		got = append(got, o)
	}
	if !same(got, want) {
		t.Error("behind writes on the way others are told")
	}
	// One that wasn't good stays so.
	flies[0], flies[1] = 3, 2
	bad := All(60, p)
	flies[0], flies[1] = 2, 3
	for o := range bad {
		t.Fatal("a refused call tells", o)
	}
}

func TestPolicyIsNotChanged(t *testing.T) {
	room := []int{2, 3, 5, 77, 78}
	p := api.Policy{Direct: 9, Flies: room[:3], Prime: 3}
	Check(p)
	Choose(420, p)
	for range All(420, p) {
	}
	if !slices.Equal(room, []int{2, 3, 5, 77, 78}) {
		t.Error("the policy's list is", room)
	}
}

// noteMemory counts each place of memory, spare room included, that an order's lists have.
func noteMemory(o api.Order, places map[*api.Order]int) {
	all := o.Kids[:cap(o.Kids)]
	for i := range all {
		places[&all[i]]++
	}
	for _, kid := range o.Kids {
		noteMemory(kid, places)
	}
}

func TestAnswersAreNewMemory(t *testing.T) {
	places := map[*api.Order]int{}
	collect := func(seq iter.Seq[api.Order]) {
		for o := range seq {
			noteMemory(o, places)
		}
	}
	for _, p := range []api.Policy{Usual(), {Direct: 2, Flies: []int{3}, Prime: 2}} {
		for _, n := range []int{6, 17, 34, 64, 96, 97, 102, 4093} {
			seq := All(n, p)
			collect(seq)
			collect(seq)
			for range 3 {
				o, err := Choose(n, p)
				if err != nil {
					t.Fatal(n, err)
				}
				noteMemory(o, places)
			}
		}
	}
	for _, often := range places {
		if often != 1 {
			t.Fatal("two answers share memory, or two parts of one")
		}
	}
}

func TestWritesIntoAnswersAreNotSeen(t *testing.T) {
	p := api.Policy{Direct: 4, Flies: []int{2, 3}, Prime: 2}
	want := slices.Collect(All(60, p))
	at := 0
	for o := range All(60, p) {
		if !order.Same(o, want[at]) {
			t.Fatal("behind writes into orders that were told:", o)
		}
		at++
		spoil(o)
	}
	chosen, _ := Choose(60, p)
	spoil(chosen)
	if again, _ := Choose(60, p); order.Check(again) != nil {
		t.Error("behind writes into the answer:", again)
	}
}

// spoil writes over all lists of an order.
func spoil(o api.Order) {
	for i := range o.Kids {
		spoil(o.Kids[i])
		o.Kids[i] = api.Order{Kind: 9, N: -1}
	}
}
