package planner

import (
	"math"
	"math/big"
	"math/rand"
	"testing"

	"timbre/api"
	"timbre/order"
)

func parsed(t *testing.T, s string) api.Order {
	t.Helper()
	o, at, err := order.Parse(s)
	if err != nil {
		t.Fatal(s, at, err)
	}
	return o
}

func textOf(t *testing.T, o api.Order) string {
	t.Helper()
	s, err := order.Text(o)
	if err != nil {
		t.Fatal(o, err)
	}
	return s
}

// fullCost is the cost of a good order by the chapter's table, without a bound.
func fullCost(o api.Order) *big.Int {
	whole := func(n int) *big.Int { return big.NewInt(int64(n)) }
	add := func(list ...*big.Int) *big.Int {
		out := new(big.Int)
		for _, x := range list {
			out.Add(out, x)
		}
		return out
	}
	mul := func(x, y *big.Int) *big.Int { return new(big.Int).Mul(x, y) }
	switch o.Kind {
	case api.OrderDirect:
		return whole(8 * o.N * o.N)
	case api.OrderFly:
		return whole(map[int]int{2: 4, 3: 12 + 4, 4: 16, 5: 32 + 16}[o.N])
	case api.OrderTimes:
		a, b := order.Length(o.Kids[0]), order.Length(o.Kids[1])
		out := add(mul(whole(a), fullCost(o.Kids[1])), mul(whole(b), fullCost(o.Kids[0])), whole(6*(a-1)*(b-1)))
		if o.Kids[0].Kind != api.OrderFly {
			out = add(out, whole(a*b))
		}
		return out
	}
	m := order.Length(o.Kids[0])
	return add(mul(whole(3), fullCost(o.Kids[0])), whole(12*o.N), whole(10*m))
}

var mostFullCost = new(big.Int).Lsh(big.NewInt(1), 62)

// checkCost holds Cost of a good order against the chapter's table; it tells whether it was refused.
func checkCost(t *testing.T, o api.Order) bool {
	t.Helper()
	want := fullCost(o)
	got, err := Cost(o)
	if want.Cmp(mostFullCost) > 0 {
		if got != 0 || err != api.ErrLimit {
			t.Fatalf("Cost of %v is %d, %v; it costs %v", o, got, err, want)
		}
		return true
	}
	if err != nil || big.NewInt(int64(got)).Cmp(want) != 0 {
		t.Fatalf("Cost of %v is %d, %v, want %v", o, got, err, want)
	}
	return false
}

// someLeaf is a sum or a butterfly of a length from 2 on, short ones more often.
func someLeaf(r *rand.Rand) api.Order {
	switch r.Intn(4) {
	case 0:
		return order.Direct(2 + r.Intn(63))
	case 1:
		return order.Direct(2 + r.Intn(4))
	}
	return order.Fly(2 + r.Intn(4))
}

// someGood is a good order of any length, at most so deep.
func someGood(r *rand.Rand, levels int) api.Order {
	if levels <= 1 || r.Intn(8) == 0 {
		return someLeaf(r)
	}
	if r.Intn(3) == 0 {
		m := someGood(r, levels-1)
		if most := (order.Length(m) + 1) / 2; most >= 2 {
			return order.Blue(2+r.Intn(min(1+r.Intn(8), most-1)), m)
		}
		return m
	}
	a, b := someLeaf(r), someGood(r, levels-1)
	if r.Intn(3) == 0 {
		a = someGood(r, levels-1)
	}
	if r.Intn(2) == 0 {
		a, b = b, a
	}
	if o := order.Times(a, b); order.Check(o) == nil {
		return o
	}
	return b
}

// someDear is a good order of up to 16 levels that does its innermost part very often.
func someDear(r *rand.Rand) api.Order {
	o := someLeaf(r)
	for levels := r.Intn(16); levels > 0; levels-- {
		next := order.Times(order.Direct(2+r.Intn(63)), o)
		if most := (order.Length(o) + 1) / 2; order.Check(next) != nil || most >= 2 && r.Intn(3) == 0 {
			next = order.Blue(2+r.Intn(min(3, most-1)), o)
		}
		o = next
	}
	return o
}

func TestCostOfTheExamples(t *testing.T) {
	for s, want := range map[string]int{
		"d1":                        8,
		"f2":                        4,
		"f3":                        16,
		"f4":                        16,
		"f5":                        48,
		"d7":                        392,
		"d64":                       32768,
		"(f2 x f4)":                 66,
		"(f3 x f4)":                 148,
		"(d3 x f4)":                 384,
		"(f4 x f2)":                 66,
		"(f4 x d3)":                 4*72 + 3*16 + 36,
		"(d2 x d2)":                 4*32 + 6 + 4,
		"((f2 x f2) x f2)":          4*4 + 2*22 + 6*3*1 + 8, // a product is no butterfly
		"(b2(f3) x f2)":             2*4 + 2*(48+24+30) + 6 + 4,
		"b2(f3)":                    3*16 + 24 + 30,
		"b8192((d64 x (f4 x d64)))": 3*fullCostInt(t, "(d64 x (f4 x d64))") + 12*8192 + 10*16384,
	} {
		if got, err := Cost(parsed(t, s)); got != want || err != nil {
			t.Errorf("Cost of %s is %d, %v, want %d", s, got, err, want)
		}
	}
}

func fullCostInt(t *testing.T, s string) int { return int(fullCost(parsed(t, s)).Int64()) }

func TestCostOfLeaves(t *testing.T) {
	for n := 1; n <= api.MaxDirect; n++ {
		if got, err := Cost(order.Direct(n)); got != 8*n*n || err != nil {
			t.Errorf("Cost of d%d is %d, %v", n, got, err)
		}
	}
	for r := 2; r <= 5; r++ {
		checkCost(t, order.Fly(r))
	}
}

func TestCostOfOrdersThatAreNotGood(t *testing.T) {
	deep := order.Fly(2)
	for range 17 {
		deep = order.Blue(2, order.Times(deep, order.Fly(2)))
	}
	shared := order.Fly(2)
	for range 100 { // few lists, but more parts than could ever be gone through
		shared = api.Order{Kind: api.OrderTimes, Kids: []api.Order{shared, shared}}
	}
	for _, o := range []api.Order{
		{},
		order.Direct(0),
		order.Direct(-1),
		order.Direct(65),
		order.Direct(math.MaxInt),
		order.Fly(1),
		order.Fly(6),
		order.Fly(math.MinInt),
		order.Times(order.Direct(1), order.Fly(2)),
		order.Times(order.Fly(2), order.Direct(65)),
		order.Blue(3, order.Fly(4)),
		order.Blue(1, order.Fly(2)),
		order.Blue(math.MaxInt, order.Fly(5)),
		{Kind: api.OrderTimes, Kids: []api.Order{order.Fly(2)}},
		{Kind: api.OrderTimes, N: 1, Kids: []api.Order{order.Fly(2), order.Fly(2)}},
		{Kind: api.OrderBlue, N: 2},
		{Kind: api.OrderDirect, N: 2, Kids: []api.Order{order.Fly(2)}},
		{Kind: 5, N: 2},
		{Kind: -1, N: 2},
		deep,
		shared,
		order.Times(order.Times(order.Direct(64), order.Direct(64)), order.Fly(5)), // 20480
	} {
		if got, err := Cost(o); got != 0 || err != api.ErrOrder {
			t.Errorf("Cost of an order that isn't good (%d %d) is %d, %v", o.Kind, o.N, got, err)
		}
	}
}

func TestCostOfAnyGoodOrders(t *testing.T) {
	r := rand.New(rand.NewSource(1))
	refused := 0
	for range 10000 {
		checkCost(t, someGood(r, 1+r.Intn(16)))
		if checkCost(t, someDear(r)) {
			refused++
		}
	}
	if refused < 300 || refused > 9000 {
		t.Error("orders of too great a cost:", refused)
	}
}

// costly is an order of cost above 24576 to the power of half its levels.
func costly(levels int) api.Order {
	half := order.Times(order.Direct(64), order.Direct(64)) // 4096
	o := order.Blue(2, order.Times(half, order.Fly(4)))
	for order.Depth(o)+2 <= levels {
		o = order.Blue(2, order.Times(half, o))
	}
	return o
}

func TestCostsThatAreNoInts(t *testing.T) {
	greatest := big.NewInt(0)
	for levels := 4; levels <= 16; levels += 2 {
		o := costly(levels)
		if order.Depth(o) != levels {
			t.Fatal("not so deep:", levels, order.Depth(o))
		}
		// Parts of many sizes about it, so that what would wrap round comes to numbers of all kinds.
		for b := 2; b <= 64; b++ {
			checkCost(t, o)
			if levels < 16 {
				checkCost(t, order.Times(order.Direct(b), o))
				checkCost(t, order.Times(o, order.Direct(b)))
				checkCost(t, order.Times(o, order.Times(order.Fly(5), order.Direct(b))))
			}
		}
		if c := fullCost(o); c.Cmp(greatest) > 0 {
			greatest = c
		}
	}
	if greatest.BitLen() < 100 {
		t.Error("the greatest cost has bits:", greatest.BitLen())
	}
}

// The orders of these two costs, each found by a search of another program.
const (
	costsMost    = "b3053((b5((d44 x b61((b63((b60(((b16(((d3 x d22) x d45)) x d6) x d50)) x d28)) x d8)))) x (b5(b29((d26 x b11(((d61 x b59((b19((d6 x (d3 x d8))) x d57))) x d2))))) x (b5(b63((b60((d43 x d54)) x d34))) x (b5(b53((d11 x d50))) x (b2(b4((f2 x d4))) x b5((f2 x d6))))))))"
	costsOneMore = "b501((b5(b46((d4 x b61((b23((d9 x (b21((d17 x b49((d36 x d63)))) x d57))) x d53))))) x (b5((d13 x b9((b3((b46((d33 x d63)) x d53)) x d46)))) x (b5((d14 x b33((b59((d24 x d39)) x d28)))) x (b5(b37((d62 x d26))) x b5((d2 x d15)))))))"
)

func TestCostAtItsBound(t *testing.T) {
	most := parsed(t, costsMost)
	if got, err := Cost(most); got != 1<<62 || err != nil {
		t.Error("Cost of 2^62:", got, err)
	}
	oneMore := parsed(t, costsOneMore)
	if fullCost(oneMore).Int64() != 1<<62+1 {
		t.Fatal("it costs", fullCost(oneMore))
	}
	if got, err := Cost(oneMore); got != 0 || err != api.ErrLimit {
		t.Error("Cost of 2^62 + 1:", got, err)
	}
	// The outermost number moves the cost by 12.
	for _, o := range []api.Order{most, oneMore} {
		for n := o.N - 50; n <= o.N+50; n++ {
			checkCost(t, order.Blue(n, o.Kids[0]))
		}
		checkCost(t, order.Times(order.Fly(2), o))
		checkCost(t, order.Times(o, order.Fly(2)))
		checkCost(t, order.Blue(2, o))
	}
}

func TestBoundedReckoning(t *testing.T) {
	edges := []int{0, 1, 2, 3, 5, 1 << 31, 1 << 61, 1<<61 + 1, 1<<61 - 1, 1 << 60, mostCost - 2, mostCost - 1, mostCost, tooMuch, mostCost / 3, mostCost/3 + 1, mostCost / 16384, mostCost/16384 + 1}
	bounded := func(x *big.Int) int {
		if x.Cmp(mostFullCost) > 0 {
			return tooMuch
		}
		return int(x.Int64())
	}
	for _, a := range edges {
		for _, b := range edges {
			x, y := big.NewInt(int64(a)), big.NewInt(int64(b))
			if got, want := sum(a, b), bounded(new(big.Int).Add(x, y)); got != want {
				t.Errorf("sum of %d and %d is %d", a, b, got)
			}
			if a == 0 || a > api.MaxInner {
				continue
			}
			if got, want := times(a, b), bounded(new(big.Int).Mul(x, y)); got != want {
				t.Errorf("%d times %d is %d", a, b, got)
			}
		}
	}
}

func TestCostChangesNothing(t *testing.T) {
	r := rand.New(rand.NewSource(2))
	for range 200 {
		o := someGood(r, 8)
		was := order.Blue(2, o).Kids[0]
		first, firstErr := Cost(o)
		again, againErr := Cost(o)
		if !order.Same(o, was) || first != again || firstErr != againErr {
			t.Fatalf("%v is changed to %v, or its cost from %d to %d", was, o, first, again)
		}
	}
}

// partOf is any part of a tree.
func partOf(r *rand.Rand, o *api.Order) *api.Order {
	for len(o.Kids) > 0 && r.Intn(3) > 0 {
		o = &o.Kids[r.Intn(len(o.Kids))]
	}
	return o
}

// P14.4.
func TestCostDoesNotFallWithADearerPart(t *testing.T) {
	r := rand.New(rand.NewSource(3))
	byLength := map[[2]int][]api.Order{} // by kind and length
	add := func(o api.Order) {
		key := [2]int{o.Kind, order.Length(o)}
		byLength[key] = append(byLength[key], o)
	}
	for range 20000 {
		add(someGood(r, 5))
	}
	tried, refused := 0, 0
	for range 20000 {
		o := someGood(r, 2+r.Intn(9))
		before, err := Cost(o)
		if err != nil {
			continue
		}
		p := partOf(r, &o)
		list := byLength[[2]int{p.Kind, order.Length(*p)}]
		if len(list) == 0 {
			continue
		}
		other := list[r.Intn(len(list))]
		was, wasErr := Cost(*p)
		is, isErr := Cost(other)
		if wasErr != nil || isErr != nil || is <= was {
			continue
		}
		*p = other
		after, err := Cost(o)
		if err != nil {
			refused++ // too deep now, or too dear
			continue
		}
		tried++
		if after < before {
			t.Fatalf("with a dearer part the cost falls from %d to %d: %v", before, after, o)
		}
	}
	if tried < 1000 {
		t.Error("tried:", tried, "refused:", refused)
	}
}
