package order

import (
	"math"
	"math/rand"
	"slices"
	"testing"

	"timbre/api"
)

// times and blue are made by hand: they keep the lists that they are given.
func times(a, b api.Order) api.Order {
	return api.Order{Kind: api.OrderTimes, Kids: []api.Order{a, b}}
}

func blue(n int, m api.Order) api.Order {
	return api.Order{Kind: api.OrderBlue, N: n, Kids: []api.Order{m}}
}

// The chapter's words, one by one, without an end ahead of the tree's.

func parts(o api.Order) int {
	n := 1
	for _, kid := range o.Kids {
		n += parts(kid)
	}
	return n
}

func depth(o api.Order) int {
	if len(o.Kids) == 0 {
		return 1
	}
	deepest := 0
	for _, kid := range o.Kids {
		deepest = max(deepest, depth(kid))
	}
	return 1 + deepest
}

func leaves(o api.Order) []api.Order {
	if len(o.Kids) == 0 {
		return []api.Order{{Kind: o.Kind, N: o.N}}
	}
	var out []api.Order
	for _, kid := range o.Kids {
		out = append(out, leaves(kid)...)
	}
	return out
}

func alike(a, b api.Order) bool {
	return a.Kind == b.Kind && a.N == b.N && slices.EqualFunc(a.Kids, b.Kids, alike)
}

// byRow is an order's length, and whether its row of the table holds, for it and all below it, with no length above MaxInner.
func byRow(o api.Order) (int, bool) {
	var lengths []int
	for _, kid := range o.Kids {
		n, ok := byRow(kid)
		if !ok {
			return 0, false
		}
		lengths = append(lengths, n)
	}
	length, ok := o.N, false
	switch o.Kind {
	case api.OrderDirect:
		ok = len(lengths) == 0 && o.N >= 1 && o.N <= 64
	case api.OrderFly:
		ok = len(lengths) == 0 && (o.N == 2 || o.N == 3 || o.N == 4 || o.N == 5)
	case api.OrderTimes:
		if ok = len(lengths) == 2 && o.N == 0 && lengths[0] >= 2 && lengths[1] >= 2; ok {
			length = lengths[0] * lengths[1]
		}
	case api.OrderBlue:
		ok = len(lengths) == 1 && o.N >= 2 && o.N < 1<<40 && lengths[0] >= 2*o.N-1
	}
	return length, ok && length <= 16384
}

// lengthByWords is 0 of an order that isn't good.
func lengthByWords(o api.Order) int {
	n, ok := byRow(o)
	if !ok || depth(o) > 16 || parts(o) > 4096 {
		return 0
	}
	return n
}

// checkGoodness: what all calls that ask whether an order is good answer.
func checkGoodness(t *testing.T, o api.Order) {
	t.Helper()
	want := lengthByWords(o)
	if got := Length(o); got != want {
		t.Fatalf("Length of %v is %d, want %d", o, got, want)
	}
	s, textErr := Text(o)
	err := Check(o)
	if want == 0 && (err != api.ErrOrder || textErr != api.ErrOrder || s != "") {
		t.Fatalf("%v isn't good: Check says %v, Text %q, %v", o, err, s, textErr)
	}
	if want != 0 && (err != nil || textErr != nil || s == "") {
		t.Fatalf("%v is good: Check says %v, Text %q, %v", o, err, s, textErr)
	}
}

func checkGood(t *testing.T, o api.Order, length int) {
	t.Helper()
	checkGoodness(t, o)
	if got := Length(o); got != length || Check(o) != nil {
		t.Errorf("the length of an order is %d, want %d", got, length)
	}
}

func checkBad(t *testing.T, o api.Order) {
	t.Helper()
	checkGoodness(t, o)
	if Check(o) != api.ErrOrder {
		t.Error("an order that isn't good is taken:", parts(o), "parts,", depth(o), "levels")
	}
}

// someGood is any good order, at most that many levels deep.
func someGood(r *rand.Rand, levels int) api.Order {
	kind := r.Intn(6)
	if levels > 1 && kind < 2 {
		a, b := someGood(r, levels-1), someGood(r, levels-1)
		if m, n := lengthByWords(a), lengthByWords(b); m >= 2 && n >= 2 && m*n <= 16384 {
			return times(a, b)
		}
		return a
	}
	if levels > 1 && kind < 4 {
		m := someGood(r, levels-1)
		if n := lengthByWords(m); n >= 3 {
			return blue(2+r.Intn((n+1)/2-1), m)
		}
		return m
	}
	if kind == 4 {
		return Fly(2 + r.Intn(4))
	}
	return Direct(1 + r.Intn(64))
}

// part is any part of a tree, by its place in it.
func part(r *rand.Rand, o *api.Order) *api.Order {
	for len(o.Kids) > 0 && r.Intn(3) > 0 {
		o = &o.Kids[r.Intn(len(o.Kids))]
	}
	return o
}

// spoil changes one thing in a tree: mostly it isn't good behind that.
func spoil(r *rand.Rand, o *api.Order) {
	p := part(r, o)
	switch r.Intn(6) {
	case 0:
		p.Kind = r.Intn(7) - 1
	case 1:
		p.N += r.Intn(5) - 2
	case 2:
		p.N = []int{0, 1, 2, 64, 65, 8192, 8193, 16384, math.MaxInt, math.MinInt, -1, 1<<62 + 1, 1 << 63 >> 1}[r.Intn(13)]
	case 3:
		p.Kids = append(p.Kids, Fly(2))
	case 4:
		if len(p.Kids) > 0 {
			p.Kids = p.Kids[:len(p.Kids)-1]
		}
	case 5:
		*p = Direct(1)
	}
}

func TestMakers(t *testing.T) {
	numbers := []int{0, 1, 2, 5, 6, 64, 65, 16384, -1, math.MaxInt, math.MinInt}
	for _, n := range numbers {
		for _, c := range []struct{ got, want api.Order }{
			{Direct(n), api.Order{Kind: 1, N: n}},
			{Fly(n), api.Order{Kind: 2, N: n}},
			{Times(Direct(n), Fly(n)), api.Order{Kind: 3, Kids: []api.Order{{Kind: 1, N: n}, {Kind: 2, N: n}}}},
			{Blue(n, Fly(3)), api.Order{Kind: 4, N: n, Kids: []api.Order{{Kind: 2, N: 3}}}},
			{Blue(n, api.Order{}), api.Order{Kind: 4, N: n, Kids: []api.Order{{}}}},
			{Times(api.Order{Kind: -7, N: n}, api.Order{Kind: n, Kids: []api.Order{}}), api.Order{Kind: 3, Kids: []api.Order{{Kind: -7, N: n}, {Kind: n}}}},
		} {
			if !alike(c.got, c.want) {
				t.Errorf("made is %v, want %v", c.got, c.want)
			}
		}
	}
}

func TestMakersCopy(t *testing.T) {
	r := rand.New(rand.NewSource(1))
	for range 500 {
		a, b := someGood(r, 6), someGood(r, 6)
		spoil(r, &a)
		for _, made := range []api.Order{Times(a, b), Times(a, a), Blue(3, a)} {
			want := make([]api.Order, len(made.Kids))
			want[0] = a
			if len(want) == 2 && alike(made.Kids[1], b) {
				want[1] = b
			} else if len(want) == 2 {
				want[1] = a
			}
			if !slices.EqualFunc(made.Kids, want, alike) {
				t.Fatalf("made of %v and %v: %v", a, b, made)
			}
			// What is written into all of the answer's memory must show nowhere else.
			lists := map[*api.Order]int{}
			for _, o := range []api.Order{made, a, b} {
				countLists(o, lists)
			}
			for _, n := range lists {
				if n != 1 {
					t.Fatalf("memory is shared: %v of %v and %v", made, a, b)
				}
			}
		}
	}
}

// countLists counts by each place of memory, spare room included, how often a tree has it in its lists.
func countLists(o api.Order, lists map[*api.Order]int) {
	all := o.Kids[:cap(o.Kids)]
	for i := range all {
		lists[&all[i]]++
	}
	for _, kid := range o.Kids {
		countLists(kid, lists)
	}
}

func TestMakersDoNotKeep(t *testing.T) {
	inner := times(Fly(2), times(Fly(3), Direct(7)))
	both, one := Times(inner, inner), Blue(5, inner)
	inner.Kids[1].Kids[0].N = 5
	inner.Kids[0].Kind = api.OrderDirect
	if s, err := Text(both); s != "((f2 x (f3 x d7)) x (f2 x (f3 x d7)))" || err != nil {
		t.Error("behind a write into the argument:", s, err)
	}
	if s, err := Text(one); s != "b5((f2 x (f3 x d7)))" || err != nil {
		t.Error("behind a write into the argument:", s, err)
	}
	both.Kids[0].Kids[1].Kids[1].N = 1
	if both.Kids[1].Kids[1].Kids[1].N != 7 || inner.Kids[1].Kids[1].N != 7 {
		t.Error("two parts of an answer share memory")
	}
}

func TestMakersCopyUpToTheirBound(t *testing.T) {
	for _, n := range []int{4096, 4097, 1<<16 - 2, 1<<16 - 1, 1 << 16} { // parts
		wide := api.Order{Kind: api.OrderTimes, Kids: make([]api.Order, n-1)}
		for i := range wide.Kids {
			wide.Kids[i] = Fly(2 + i%4)
		}
		chain := Fly(2)
		for range n - 1 {
			chain = blue(2, chain)
		}
		for _, o := range []api.Order{wide, chain} {
			made := Times(o, o)
			lists := map[*api.Order]int{}
			countLists(made, lists)
			countLists(o, lists)
			for _, often := range lists {
				if often != 1 {
					t.Fatalf("of a tree of %d parts memory is shared", n)
				}
			}
			if !alike(made.Kids[0], o) || !alike(made.Kids[1], o) || Depth(made) != 1+depth(o) {
				t.Fatalf("a tree of %d parts isn't copied", n)
			}
		}
	}
}

func TestMakersPartSharedLists(t *testing.T) {
	for _, o := range []api.Order{doubled(Fly(2), 3), blue(2, doubled(Fly(2), 15))} { // the second has 2^16 parts
		made := Times(o, o)
		lists := map[*api.Order]int{}
		countLists(made, lists)
		for _, often := range lists {
			if often != 1 {
				t.Fatalf("of a tree of %d parts memory is shared", parts(o))
			}
		}
		if !alike(made, times(o, o)) {
			t.Fatalf("a tree of %d parts isn't copied", parts(o))
		}
	}
}

func TestNumbers(t *testing.T) {
	numbers := []int{100, 16383, 16384, 16385, math.MaxInt, math.MinInt, math.MinInt + 1, 1 << 62, 1<<62 + 1, 1<<62 + 2, -1 << 62}
	for n := -70; n <= 70; n++ {
		numbers = append(numbers, n)
	}
	inner := []api.Order{Fly(2), Fly(3), Fly(4), Fly(5), Direct(64), times(Direct(64), Direct(64)), times(Fly(4), times(Direct(64), Direct(64)))}
	for _, n := range numbers {
		checkGoodness(t, Direct(n))
		checkGoodness(t, Fly(n))
		for kind := -2; kind <= 7; kind++ {
			checkGoodness(t, api.Order{Kind: kind, N: n})
			checkGoodness(t, api.Order{Kind: kind, N: n, Kids: []api.Order{}})
			for _, m := range inner {
				checkGoodness(t, api.Order{Kind: kind, N: n, Kids: []api.Order{m}})
				checkGoodness(t, api.Order{Kind: kind, N: n, Kids: []api.Order{m, Fly(2)}})
				checkGoodness(t, api.Order{Kind: kind, N: n, Kids: []api.Order{Fly(2), m}})
				checkGoodness(t, api.Order{Kind: kind, N: n, Kids: []api.Order{Fly(2), Fly(2), m}})
			}
		}
	}
	for n := 1; n <= 64; n++ {
		checkGood(t, Direct(n), n)
	}
	for r := 2; r <= 5; r++ {
		checkGood(t, Fly(r), r)
	}
}

func TestInnerLengths(t *testing.T) {
	for m := 1; m <= 64; m++ {
		for n := range 70 {
			checkGoodness(t, Blue(n, Direct(m)))
			checkGoodness(t, Times(Direct(m), Direct(n)))
		}
		if m >= 3 {
			checkGood(t, Blue((m+1)/2, Direct(m)), (m+1)/2)
			checkBad(t, Blue((m+1)/2+1, Direct(m)))
		}
	}
	most := Times(Direct(64), Times(Fly(4), Direct(64)))
	checkGood(t, most, 16384)
	checkGood(t, Blue(8192, most), 8192)
	checkBad(t, Blue(8193, most))
	checkBad(t, Times(Fly(2), most))
	checkBad(t, Times(most, most))
	checkGood(t, Times(Direct(63), Times(Direct(52), Fly(5))), 16380)
	checkBad(t, Times(Direct(23), Times(Direct(23), Direct(31)))) // 16399
	checkGood(t, Times(Blue(5, Direct(9)), Fly(2)), 10)
	// A length above MaxInner isn't mended by Bluestein's way on it.
	checkBad(t, Blue(2, Times(most, Fly(2))))
	// One of length 1 may be no factor, wherever it stands.
	checkBad(t, Times(Direct(1), Fly(2)))
	checkBad(t, Times(Fly(2), Direct(1)))
	checkBad(t, Times(Fly(2), Times(Fly(2), Direct(1))))
	checkGood(t, Direct(1), 1)
}

func TestExamplesOfBadOrders(t *testing.T) {
	for _, o := range []api.Order{
		{},
		Direct(0),
		Direct(65),
		Fly(6),
		Fly(1),
		Blue(11, Fly(5)),
		Times(Direct(1), Fly(2)),
		Blue(1, Fly(2)),
		{Kind: api.OrderTimes, Kids: []api.Order{Fly(2)}},
		{Kind: api.OrderTimes, N: 1, Kids: []api.Order{Fly(2), Fly(2)}},
		{Kind: api.OrderTimes, N: 4, Kids: []api.Order{Fly(2), Fly(2)}},
		{Kind: api.OrderDirect, N: 2, Kids: []api.Order{Fly(2)}},
		{Kind: api.OrderFly, N: 2, Kids: []api.Order{Fly(2)}},
		{Kind: api.OrderBlue, N: 2},
		{Kind: api.OrderBlue, N: 2, Kids: []api.Order{Fly(4), Fly(4)}},
		chainOf(17),
		Times(Times(Direct(64), Fly(4)), Times(Fly(2), Direct(64))), // 256 and 128
		Times(Times(Direct(64), Direct(8)), Direct(64)),             // 512 and 64
	} {
		checkBad(t, o)
	}
}

// chainOf is an order so many levels deep, good as far as that goes.
func chainOf(levels int) api.Order {
	o := Fly(4)
	for depth(o)+2 <= levels {
		o = Blue(2, Times(Fly(2), o))
	}
	if depth(o) < levels {
		o = Times(o, Fly(2))
	}
	return o
}

func TestDeepOrders(t *testing.T) {
	for levels := 1; levels <= 16; levels++ {
		o := chainOf(levels)
		if Depth(o) != levels || Check(o) != nil {
			t.Error("an order of", levels, "levels:", Depth(o), Check(o))
		}
		checkGoodness(t, o)
	}
	for _, levels := range []int{17, 18, 19, 30, 1000} {
		o := chainOf(levels)
		if _, ok := byRow(o); !ok || Depth(o) != levels {
			t.Fatal("not of this depth, or not good but for it:", levels)
		}
		checkBad(t, o)
	}
	// The deepest leaf counts, on whichever side it stands.
	checkGood(t, Times(chainOf(15), Fly(2)), 2*Length(chainOf(15)))
	checkGood(t, Times(Fly(2), chainOf(15)), 2*Length(chainOf(15)))
	checkBad(t, Times(chainOf(16), Fly(2)))
	checkBad(t, Times(Fly(2), chainOf(16)))
	checkBad(t, Blue(2, chainOf(16)))
}

// balanced is the product of these.
func balanced(list []api.Order) api.Order {
	if len(list) == 1 {
		return list[0]
	}
	half := len(list) / 2
	return times(balanced(list[:half]), balanced(list[half:]))
}

// ofParts is an order of length 2 with so many parts, at most 1 + 5 wide levels deep (of any number between 16 and 24 for one, and so on).
func ofParts(n, wide int) api.Order {
	if n == 1 {
		return Fly(2)
	}
	if n == 2 {
		return blue(2, Direct(3))
	}
	count := min(14, n/2) // 2^14 is MaxInner
	if wide == 1 {
		count = min(8, n/2)
	}
	list := make([]api.Order, count)
	for i := range list {
		list[i] = ofParts((n-count)/count+btoi(i < (n-count)%count), wide-1)
	}
	return blue(2, balanced(list))
}

func btoi(b bool) int {
	if b {
		return 1
	}
	return 0
}

func TestOrdersOfManyParts(t *testing.T) {
	for n := 4000; n <= 4200; n++ {
		o := ofParts(n, 3)
		if length, ok := byRow(o); length != 2 || !ok || parts(o) != n || depth(o) > 16 {
			t.Fatalf("not an order of %d parts, good as far as that goes: %d parts, %d levels", n, parts(o), depth(o))
		}
		checkGoodness(t, o)
		if want := n <= 4096; (Check(o) == nil) != want {
			t.Errorf("an order of %d parts: %v", n, Check(o))
		}
		if n == 4096 {
			checkGood(t, o, 2)
			checkBad(t, Blue(2, Times(o, Fly(2))))
			s, err := Text(o)
			back, at, backErr := Parse(s)
			if err != nil || at != 0 || backErr != nil || !alike(back, o) {
				t.Error("an order of 4096 parts, there and back:", len(s), err, at, backErr)
			}
		}
	}
}

func TestOneOrderInManyPlaces(t *testing.T) {
	// It is counted in each place: these have few lists, but many parts.
	shared := ofParts(292, 2)
	list := slices.Repeat([]api.Order{shared}, 14)
	checkBad(t, blue(2, balanced(list))) // 4102 parts
	list[3] = ofParts(286, 2)
	checkGood(t, blue(2, balanced(list)), 2) // 4096 parts
	list[3] = ofParts(287, 2)
	checkBad(t, blue(2, balanced(list))) // 4097 parts
	if list[3] = ofParts(286, 2); parts(blue(2, balanced(list))) != 4096 {
		t.Error("not of 4096 parts")
	}
}

func TestGoodnessOfSmallTrees(t *testing.T) {
	var small []api.Order
	for kind := range 6 {
		for _, n := range []int{0, 1, 2, 3, 5, 6} {
			small = append(small, api.Order{Kind: kind, N: n})
		}
	}
	for kind := range 6 {
		for _, n := range []int{0, 1, 2, 3} {
			for _, a := range small {
				checkGoodness(t, api.Order{Kind: kind, N: n, Kids: []api.Order{a}})
				checkGoodness(t, api.Order{Kind: kind, N: n, Kids: []api.Order{{Kind: api.OrderBlue, N: 2, Kids: []api.Order{a}}}})
				for _, b := range small {
					o := api.Order{Kind: kind, N: n, Kids: []api.Order{a, b}}
					checkGoodness(t, o)
					checkGoodness(t, Blue(2, o))
					checkGoodness(t, Times(o, Fly(2)))
					checkGoodness(t, Times(Fly(2), o))
				}
			}
		}
	}
}

func TestGoodnessOfAnyTrees(t *testing.T) {
	r := rand.New(rand.NewSource(2))
	good := 0
	for range 20000 {
		o := someGood(r, 1+r.Intn(9))
		checkGoodness(t, o)
		if Check(o) != nil {
			t.Fatalf("%v is good", o)
		}
		o = Times(o, someGood(r, 3))
		checkGoodness(t, o)
		spoil(r, &o)
		checkGoodness(t, o)
		good += btoi(Check(o) == nil)
	}
	if good < 1000 || good > 19000 {
		t.Error("of the spoilt ones are good:", good)
	}
}

// P12.4.
func TestLengthAndDepthByLeaves(t *testing.T) {
	r := rand.New(rand.NewSource(3))
	without := 0
	for range 20000 {
		o := someGood(r, 7)
		if hasBlue(o) {
			continue
		}
		without++
		product, count := 1, 0
		for leaf := range Leaves(o) {
			product *= Length(leaf)
			count++
		}
		if Length(o) != product || Depth(o) > count {
			t.Fatalf("%v: length %d, depth %d", o, Length(o), Depth(o))
		}
	}
	if without < 1000 {
		t.Error("orders without Bluestein's way:", without)
	}
}

func hasBlue(o api.Order) bool {
	return o.Kind == api.OrderBlue || slices.ContainsFunc(o.Kids, hasBlue)
}

func TestCallsChangeNothing(t *testing.T) {
	r := rand.New(rand.NewSource(4))
	for range 300 {
		o := someGood(r, 6)
		spoil(r, &o)
		was := Times(o, o).Kids[0]
		Check(o)
		Length(o)
		Depth(o)
		Text(o)
		Same(o, was)
		for range Leaves(o) {
		}
		Times(o, o)
		Blue(2, o)
		if !alike(o, was) {
			t.Fatalf("%v is changed to %v", was, o)
		}
	}
}
