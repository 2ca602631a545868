package compile

import (
	"math"
	"slices"
	"strings"
	"testing"

	"timbre/api"
	"timbre/listing"
	"timbre/order"
	"timbre/steps"
)

var ways = []int{api.Deep, api.Wide}

func parsed(t *testing.T, s string) api.Order {
	t.Helper()
	o, _, err := order.Parse(s)
	if err != nil {
		t.Fatal(s, err)
	}
	return o
}

func compiled(t *testing.T, o api.Order, way int) api.Program {
	t.Helper()
	p, err := Program(o, way)
	if err != nil {
		t.Fatalf("way %d of %v: %v", way, o, err)
	}
	if n, err := Cells(o, way); n != p.Cells || err != nil {
		t.Fatalf("way %d of %v: Cells is %d, %v, want %d", way, o, n, err, p.Cells)
	}
	return p
}

// refuses asks of both calls that they answer an error and nothing else.
func refuses(t *testing.T, o api.Order, way int, want error) {
	t.Helper()
	if p, err := Program(o, way); err != want || !steps.Same(p, api.Program{}) {
		t.Errorf("way %d of an order: %d steps, %v, want %v", way, len(p.Steps), err, want)
	}
	if n, err := Cells(o, way); err != want || n != 0 {
		t.Errorf("way %d of an order: %d cells, %v, want %v", way, n, err, want)
	}
}

// Programs written by hand from the chapter; lines are parted by strokes.
var byHand = []struct {
	order, deep, wide string
}{
	{
		order: "d3",
		deep:  "timbre 3 6 0 3|direct d3 j1 c3 n3",
		wide:  "timbre 3 6 0 3|direct d3 j1 c3 n3",
	},
	{
		order: "d1",
		deep:  "timbre 1 2 0 1|direct d1 j1 c1 n1",
		wide:  "timbre 1 2 0 1|direct d1 j1 c1 n1",
	},
	{
		order: "f2",
		deep:  "timbre 2 4 0 2|gather d2 j1 c2|fly d2 j1 c1 n2",
		wide:  "timbre 2 4 0 2|gather d2 j1 c2|fly d2 j1 c1 n2",
	},
	{
		order: "(f2 x d3)",
		deep:  "timbre 6 12 0 6|direct d6 j2 c3 n3|direct d9 s1 j2 c3 n3|twist d9 c3 n6 k1|fly d6 j3 c3 n2",
		wide:  "timbre 6 12 0 6|direct d6 j2 c3 n3|direct d9 s1 j2 c3 n3|twist d9 c3 n6 k1|fly d6 j3 c3 n2",
	},
	{
		order: "(d2 x f2)",
		deep: "timbre 4 14 0 4|gather d8 j2 c2|fly d8 j1 c1 n2|gather d10 s1 j2 c2|fly d10 j1 c1 n2|twist d10 c2 n4 k1|" +
			"direct d12 s8 j2 c2 n2|scatter d4 s12 j2 c2|direct d12 s9 j2 c2 n2|scatter d5 s12 j2 c2",
		wide: "timbre 4 16 0 4|gather d8 j2 c2|gather d10 s1 j2 c2|fly d8 j1 c1 n2|fly d10 j1 c1 n2|twist d10 c2 n4 k1|" +
			"direct d12 s8 j2 c2 n2|direct d14 s9 j2 c2 n2|scatter d4 s12 j2 c2|scatter d5 s14 j2 c2",
	},
	{
		order: "b2(f4)",
		deep: "timbre 2 20 0 2|gather d4 j1 c2|zero d6 c2|chirp d4 c2 n2|gather d12 s4 j1 c4|fly d12 j1 c1 n4|fill d8 c4 n2|" +
			"gather d16 s8 j1 c4|fly d16 j1 c1 n4|times d12 s16 c4|conj d12 c4|gather d4 s12 j1 c4|fly d4 j1 c1 n4|" +
			"conj d4 c2|over d4 c2 n4|gather d2 s4 j1 c2|chirp d2 c2 n2",
		wide: "timbre 2 20 0 2|gather d4 j1 c2|zero d6 c2|chirp d4 c2 n2|gather d12 s4 j1 c4|fly d12 j1 c1 n4|fill d8 c4 n2|" +
			"gather d16 s8 j1 c4|fly d16 j1 c1 n4|times d12 s16 c4|conj d12 c4|gather d4 s12 j1 c4|fly d4 j1 c1 n4|" +
			"conj d4 c2|over d4 c2 n4|gather d2 s4 j1 c2|chirp d2 c2 n2",
	},
	{ // regions within regions, and those of the inner ones again and again
		order: "((d2 x f2) x f3)",
		deep: "timbre 12 46 0 12|" +
			"gather d24 j4 c3|fly d24 j1 c1 n3|" +
			"gather d27 s1 j4 c3|fly d27 j1 c1 n3|twist d27 c3 n12 k1|" +
			"gather d30 s2 j4 c3|fly d30 j1 c1 n3|twist d30 c3 n12 k2|" +
			"gather d33 s3 j4 c3|fly d33 j1 c1 n3|twist d33 c3 n12 k3|" +
			"gather d40 s24 j6 c2|fly d40 j1 c1 n2|gather d42 s27 j6 c2|fly d42 j1 c1 n2|twist d42 c2 n4 k1|" +
			"direct d44 s40 j2 c2 n2|scatter d36 s44 j2 c2|direct d44 s41 j2 c2 n2|scatter d37 s44 j2 c2|scatter d12 s36 j3 c4|" +
			"gather d40 s25 j6 c2|fly d40 j1 c1 n2|gather d42 s28 j6 c2|fly d42 j1 c1 n2|twist d42 c2 n4 k1|" +
			"direct d44 s40 j2 c2 n2|scatter d36 s44 j2 c2|direct d44 s41 j2 c2 n2|scatter d37 s44 j2 c2|scatter d13 s36 j3 c4|" +
			"gather d40 s26 j6 c2|fly d40 j1 c1 n2|gather d42 s29 j6 c2|fly d42 j1 c1 n2|twist d42 c2 n4 k1|" +
			"direct d44 s40 j2 c2 n2|scatter d36 s44 j2 c2|direct d44 s41 j2 c2 n2|scatter d37 s44 j2 c2|scatter d14 s36 j3 c4",
		wide: "timbre 12 72 0 12|" +
			"gather d24 j4 c3|gather d27 s1 j4 c3|gather d30 s2 j4 c3|gather d33 s3 j4 c3|" +
			"fly d24 j1 c1 n3|fly d27 j1 c1 n3|fly d30 j1 c1 n3|fly d33 j1 c1 n3|" +
			"twist d27 c3 n12 k1|twist d30 c3 n12 k2|twist d33 c3 n12 k3|" +
			"gather d48 s24 j6 c2|gather d50 s27 j6 c2|gather d56 s25 j6 c2|gather d58 s28 j6 c2|gather d64 s26 j6 c2|gather d66 s29 j6 c2|" +
			"fly d48 j1 c1 n2|fly d50 j1 c1 n2|fly d56 j1 c1 n2|fly d58 j1 c1 n2|fly d64 j1 c1 n2|fly d66 j1 c1 n2|" +
			"twist d50 c2 n4 k1|twist d58 c2 n4 k1|twist d66 c2 n4 k1|" +
			"direct d52 s48 j2 c2 n2|direct d54 s49 j2 c2 n2|direct d60 s56 j2 c2 n2|direct d62 s57 j2 c2 n2|direct d68 s64 j2 c2 n2|direct d70 s65 j2 c2 n2|" +
			"scatter d36 s52 j2 c2|scatter d37 s54 j2 c2|scatter d40 s60 j2 c2|scatter d41 s62 j2 c2|scatter d44 s68 j2 c2|scatter d45 s70 j2 c2|" +
			"scatter d12 s36 j3 c4|scatter d13 s40 j3 c4|scatter d14 s44 j3 c4",
	},
	{ // the twists of all instances ahead of the first one's butterfly
		order: "(f2 x (f2 x d2))",
		deep: "timbre 8 16 0 8|" +
			"direct d8 j4 c2 n2|direct d10 s2 j4 c2 n2|twist d10 c2 n4 k1|fly d8 j2 c2 n2|" +
			"direct d12 s1 j4 c2 n2|direct d14 s3 j4 c2 n2|twist d14 c2 n4 k1|fly d12 j2 c2 n2|" +
			"twist d12 c4 n8 k1|fly d8 j4 c4 n2",
		wide: "timbre 8 16 0 8|" +
			"direct d8 j4 c2 n2|direct d10 s2 j4 c2 n2|direct d12 s1 j4 c2 n2|direct d14 s3 j4 c2 n2|" +
			"twist d10 c2 n4 k1|twist d14 c2 n4 k1|fly d8 j2 c2 n2|fly d12 j2 c2 n2|" +
			"twist d12 c4 n8 k1|fly d8 j4 c4 n2",
	},
	{ // two instances of Bluestein's way, and an inner product with regions thrice
		order: "(f2 x b2((d2 x f2)))",
		deep: "timbre 4 30 0 4|" +
			"gather d8 j2 c2|zero d10 c2|chirp d8 c2 n2|" +
			"gather d24 s8 j2 c2|fly d24 j1 c1 n2|gather d26 s9 j2 c2|fly d26 j1 c1 n2|twist d26 c2 n4 k1|" +
			"direct d28 s24 j2 c2 n2|scatter d16 s28 j2 c2|direct d28 s25 j2 c2 n2|scatter d17 s28 j2 c2|" +
			"fill d12 c4 n2|" +
			"gather d24 s12 j2 c2|fly d24 j1 c1 n2|gather d26 s13 j2 c2|fly d26 j1 c1 n2|twist d26 c2 n4 k1|" +
			"direct d28 s24 j2 c2 n2|scatter d20 s28 j2 c2|direct d28 s25 j2 c2 n2|scatter d21 s28 j2 c2|" +
			"times d16 s20 c4|conj d16 c4|" +
			"gather d24 s16 j2 c2|fly d24 j1 c1 n2|gather d26 s17 j2 c2|fly d26 j1 c1 n2|twist d26 c2 n4 k1|" +
			"direct d28 s24 j2 c2 n2|scatter d8 s28 j2 c2|direct d28 s25 j2 c2 n2|scatter d9 s28 j2 c2|" +
			"conj d8 c2|over d8 c2 n4|gather d4 s8 j1 c2|chirp d4 c2 n2|" +
			"gather d8 s1 j2 c2|zero d10 c2|chirp d8 c2 n2|" +
			"gather d24 s8 j2 c2|fly d24 j1 c1 n2|gather d26 s9 j2 c2|fly d26 j1 c1 n2|twist d26 c2 n4 k1|" +
			"direct d28 s24 j2 c2 n2|scatter d16 s28 j2 c2|direct d28 s25 j2 c2 n2|scatter d17 s28 j2 c2|" +
			"fill d12 c4 n2|" +
			"gather d24 s12 j2 c2|fly d24 j1 c1 n2|gather d26 s13 j2 c2|fly d26 j1 c1 n2|twist d26 c2 n4 k1|" +
			"direct d28 s24 j2 c2 n2|scatter d20 s28 j2 c2|direct d28 s25 j2 c2 n2|scatter d21 s28 j2 c2|" +
			"times d16 s20 c4|conj d16 c4|" +
			"gather d24 s16 j2 c2|fly d24 j1 c1 n2|gather d26 s17 j2 c2|fly d26 j1 c1 n2|twist d26 c2 n4 k1|" +
			"direct d28 s24 j2 c2 n2|scatter d8 s28 j2 c2|direct d28 s25 j2 c2 n2|scatter d9 s28 j2 c2|" +
			"conj d8 c2|over d8 c2 n4|gather d6 s8 j1 c2|chirp d6 c2 n2|" +
			"twist d6 c2 n4 k1|fly d4 j2 c2 n2",
		wide: "timbre 4 88 0 4|" +
			"gather d8 j2 c2|gather d24 s1 j2 c2|zero d10 c2|zero d26 c2|chirp d8 c2 n2|chirp d24 c2 n2|" +
			"gather d40 s8 j2 c2|gather d42 s9 j2 c2|gather d48 s24 j2 c2|gather d50 s25 j2 c2|" +
			"fly d40 j1 c1 n2|fly d42 j1 c1 n2|fly d48 j1 c1 n2|fly d50 j1 c1 n2|twist d42 c2 n4 k1|twist d50 c2 n4 k1|" +
			"direct d44 s40 j2 c2 n2|direct d46 s41 j2 c2 n2|direct d52 s48 j2 c2 n2|direct d54 s49 j2 c2 n2|" +
			"scatter d16 s44 j2 c2|scatter d17 s46 j2 c2|scatter d32 s52 j2 c2|scatter d33 s54 j2 c2|" +
			"fill d12 c4 n2|fill d28 c4 n2|" +
			"gather d56 s12 j2 c2|gather d58 s13 j2 c2|gather d64 s28 j2 c2|gather d66 s29 j2 c2|" +
			"fly d56 j1 c1 n2|fly d58 j1 c1 n2|fly d64 j1 c1 n2|fly d66 j1 c1 n2|twist d58 c2 n4 k1|twist d66 c2 n4 k1|" +
			"direct d60 s56 j2 c2 n2|direct d62 s57 j2 c2 n2|direct d68 s64 j2 c2 n2|direct d70 s65 j2 c2 n2|" +
			"scatter d20 s60 j2 c2|scatter d21 s62 j2 c2|scatter d36 s68 j2 c2|scatter d37 s70 j2 c2|" +
			"times d16 s20 c4|times d32 s36 c4|conj d16 c4|conj d32 c4|" +
			"gather d72 s16 j2 c2|gather d74 s17 j2 c2|gather d80 s32 j2 c2|gather d82 s33 j2 c2|" +
			"fly d72 j1 c1 n2|fly d74 j1 c1 n2|fly d80 j1 c1 n2|fly d82 j1 c1 n2|twist d74 c2 n4 k1|twist d82 c2 n4 k1|" +
			"direct d76 s72 j2 c2 n2|direct d78 s73 j2 c2 n2|direct d84 s80 j2 c2 n2|direct d86 s81 j2 c2 n2|" +
			"scatter d8 s76 j2 c2|scatter d9 s78 j2 c2|scatter d24 s84 j2 c2|scatter d25 s86 j2 c2|" +
			"conj d8 c2|conj d24 c2|over d8 c2 n4|over d24 c2 n4|gather d4 s8 j1 c2|gather d6 s24 j1 c2|chirp d4 c2 n2|chirp d6 c2 n2|" +
			"twist d6 c2 n4 k1|fly d4 j2 c2 n2",
	},
}

func TestProgramsWrittenByHand(t *testing.T) {
	for _, c := range byHand {
		for way, want := range []string{c.deep, c.wide} {
			got, err := listing.Text(compiled(t, parsed(t, c.order), way))
			want = strings.ReplaceAll(want, "|", "\n") + "\n"
			if got != want || err != nil {
				t.Errorf("way %d of %s: %v\n%swant\n%s", way, c.order, err, got, want)
			}
		}
	}
}

func TestWaysThatThereAreNot(t *testing.T) {
	tooGreat := order.Times(order.Direct(64), order.Times(order.Direct(64), order.Fly(4)))
	for _, way := range []int{-1, 2, 3, 17, math.MaxInt, math.MinInt, 1 << 32, 1<<32 + 1} {
		for _, o := range []api.Order{order.Fly(2), order.Fly(6), {}, tooGreat, order.Times(tooGreat, tooGreat)} {
			refuses(t, o, way, api.ErrMode)
		}
	}
}

func TestOrdersThatAreNotGood(t *testing.T) {
	deeper := order.Fly(2) // 17 levels
	for range 8 {
		deeper = order.Blue(2, order.Times(order.Fly(2), deeper))
	}
	doubled := order.Fly(2) // more parts than could ever be gone through
	for range 100 {
		doubled = api.Order{Kind: api.OrderTimes, Kids: []api.Order{doubled, doubled}}
	}
	for _, o := range []api.Order{
		{},
		{Kind: 5, N: 2},
		{Kind: -1, N: 2},
		order.Direct(0),
		order.Direct(65),
		order.Direct(math.MinInt),
		order.Fly(1),
		order.Fly(6),
		order.Blue(11, order.Fly(5)),
		order.Blue(1, order.Fly(2)),
		order.Times(order.Direct(1), order.Fly(2)),
		order.Times(order.Fly(2), order.Direct(1)),
		{Kind: api.OrderTimes},
		{Kind: api.OrderTimes, Kids: []api.Order{order.Fly(2)}},
		{Kind: api.OrderTimes, N: 1, Kids: []api.Order{order.Fly(2), order.Fly(2)}},
		{Kind: api.OrderDirect, N: 2, Kids: []api.Order{order.Fly(2)}},
		{Kind: api.OrderBlue, N: 2},
		order.Times(order.Fly(2), order.Times(order.Fly(2), order.Fly(6))),
		deeper,
		doubled,
	} {
		for _, way := range ways {
			refuses(t, o, way, api.ErrOrder)
		}
	}
}

// An empty list of Kids is as good as none.
func TestEmptyKids(t *testing.T) {
	o := order.Times(order.Fly(2), order.Direct(3))
	o.Kids[0].Kids = []api.Order{}
	o.Kids[1].Kids = make([]api.Order, 0, 3)
	for _, way := range ways {
		if want := compiled(t, parsed(t, "(f2 x d3)"), way); !steps.Same(compiled(t, o, way), want) {
			t.Error("empty Kids make another program, way", way)
		}
	}
}

func TestOrdersAreNeitherChangedNorKept(t *testing.T) {
	for _, s := range []string{"f4", "(f2 x (d3 x f2))", "((d2 x f2) x b3((f2 x d3)))"} {
		for _, way := range ways {
			o := parsed(t, s)
			p := compiled(t, o, way)
			before := slices.Clone(p.Steps)
			if got, err := order.Text(o); got != s || err != nil {
				t.Errorf("%s is changed to %s, %v", s, got, err)
			}
			clear(o.Kids)
			if !slices.Equal(p.Steps, before) {
				t.Error("behind a write into the order the program is another one:", s)
			}
		}
	}
}

func TestProgramsAreNewMemory(t *testing.T) {
	o := parsed(t, "((d2 x f2) x b3((f2 x d3)))")
	for _, way := range ways {
		first, second := compiled(t, o, way), compiled(t, o, way)
		clear(first.Steps[:cap(first.Steps)])
		third := compiled(t, o, way)
		if !steps.Same(second, third) || !steps.Same(second, told(o, way)) {
			t.Error("behind a write into a program another one is changed, way", way)
		}
	}
}
