package crew

import (
	"hash/fnv"
	"math"
	"math/rand"
	"slices"
	"testing"

	"timbre/api"
	"timbre/compile"
	"timbre/order"
	"timbre/plan"
)

var (
	minusZero = math.Copysign(0, -1)
	inf       = math.Inf(1)
	nan       = math.NaN()
)

var ways = []int{api.Deep, api.Wide}

// must is what a call of a lower layer answers beside no error.
func must[T any](x T, err error) T {
	if err != nil {
		panic(err)
	}
	return x
}

// parsed is the order of a text.
func parsed(s string) api.Order {
	o, _, err := order.Parse(s)
	if err != nil {
		panic(s)
	}
	return o
}

func alikeFloats(x, y float64) bool {
	return math.Float64bits(x) == math.Float64bits(y) || x != x && y != y
}

func alike(a, b []complex128) bool {
	return slices.EqualFunc(a, b, func(a, b complex128) bool {
		return alikeFloats(real(a), real(b)) && alikeFloats(imag(a), imag(b))
	})
}

// toldMany is one list behind the other, by layer 20 alone.
func toldMany(p *plan.Plan, lists [][]complex128, inverse bool) [][]complex128 {
	out := [][]complex128{}
	for _, x := range lists {
		if inverse {
			out = append(out, must(p.Inverse(x)))
		} else {
			out = append(out, must(p.Forward(x)))
		}
	}
	return out
}

// held asks that a call answered these lists.
func held(t *testing.T, what string, got [][]complex128, err error, want [][]complex128) {
	t.Helper()
	if err != nil || len(got) != len(want) {
		t.Fatalf("%s: %d lists, %v, want %d", what, len(got), err, len(want))
	}
	for i := range got {
		if !alike(got[i], want[i]) {
			t.Fatalf("%s: the list %d is %v, want %v", what, i, got[i], want[i])
		}
	}
}

// refused asks that a call answered an error and nothing else.
func refused[T any](t *testing.T, what string, got []T, err, want error) {
	t.Helper()
	if len(got) != 0 || err != want {
		t.Errorf("%s: %v, %v, want %v", what, got, err, want)
	}
}

// anyFloat is any float; odd ones (infinities, NaN of any bits, the ends of the floats) stand in some lists alone, since a NaN hides much.
func anyFloat(r *rand.Rand, odd bool) float64 {
	if odd && r.Intn(6) == 0 {
		return []float64{nan, math.Float64frombits(0xfff8000000000007), inf, -inf, math.MaxFloat64, 5e-324}[r.Intn(6)]
	}
	if r.Intn(8) == 0 {
		return []float64{0, minusZero}[r.Intn(2)]
	}
	return math.Ldexp(r.Float64()-0.5, r.Intn(40)-20)
}

func anyList(r *rand.Rand, n int, odd bool) []complex128 {
	x := make([]complex128, n)
	for i := range x {
		x[i] = complex(anyFloat(r, odd), anyFloat(r, odd))
	}
	return x
}

// anyLists are so many lists, some of them odd.
func anyLists(r *rand.Rand, n, count int) [][]complex128 {
	var out [][]complex128
	for range count {
		out = append(out, anyList(r, n, r.Intn(3) == 0))
	}
	return out
}

// anyTurns are turns of few acts and of many, of tasks that are ended too.
func anyTurns(r *rand.Rand, tasks, acts int) []api.Turn {
	var out []api.Turn
	for range r.Intn(6 * tasks) {
		turn := api.Turn{Task: r.Intn(tasks)}
		switch r.Intn(5) {
		case 0:
			turn.Acts = r.Intn(4)
		case 1:
			turn.Acts = []int{acts - 1, acts, acts + 1, api.MaxActs, math.MaxInt}[r.Intn(5)]
		default:
			turn.Acts = r.Intn(acts)
		}
		out = append(out, turn)
	}
	return out
}

// anyOrder is any good order, at most that many levels deep, that has a program in both ways.
func anyOrder(r *rand.Rand, levels int) api.Order {
	for {
		o := anyTree(r, levels)
		_, deep := compile.Program(o, api.Deep)
		_, wide := compile.Program(o, api.Wide)
		if deep == nil && wide == nil {
			return o
		}
	}
}

func anyTree(r *rand.Rand, levels int) api.Order {
	switch kind := r.Intn(8); {
	case levels > 1 && kind < 5:
		a, b := anyTree(r, levels-1), anyTree(r, levels-1)
		if order.Length(a)*order.Length(b) <= 400 {
			return order.Times(a, b)
		}
		return b
	case levels > 1 && kind < 6:
		m := anyTree(r, levels-1)
		if most := (order.Length(m) + 1) / 2; most >= 2 {
			return order.Blue(2+r.Intn(most-1), m)
		}
		return m
	case kind == 6:
		return order.Direct(2 + r.Intn(63)>>r.Intn(6))
	}
	return order.Fly(2 + r.Intn(4))
}

// given is a list that another program can make too.
func given(n int) []complex128 {
	state := uint64(n)
	part := func() float64 {
		state = state*6364136223846793005 + 1442695040888963407
		return math.Ldexp(float64(state>>11)-0x1p52, -45-int(state>>5%8))
	}
	out := make([]complex128, n)
	for i := range out {
		re := part()
		out[i] = complex(re, part())
	}
	return out
}

// sumOf is FNV-1a of the bits of a list, the lowest bytes first.
func sumOf(list []complex128) uint64 {
	sum := fnv.New64a()
	var b [8]byte
	for _, w := range list {
		for _, f := range []float64{real(w), imag(w)} {
			for i := range b {
				b[i] = byte(math.Float64bits(f) >> (8 * i))
			}
			sum.Write(b[:])
		}
	}
	return sum.Sum64()
}

// knownBits are transforms by another program, written from the document alone: roots, butterflies and chirps too.
var knownBits = []struct {
	order                   string
	given, forward, inverse uint64
}{
	{"d1", 0xfc5db54eadd64f26, 0xfc5db54eadd64f26, 0xfc5db54eadd64f26},
	{"f5", 0xd3bf132feb80468f, 0x9e0e6d23111c2be1, 0x43a40271a472024f},
	{"d64", 0x228a73a423718da7, 0xa6564ab3eab99d0c, 0xeae1fb5018d444d0},
	{"(f2 x d3)", 0x6677195e6d018327, 0xedd7358cb63da314, 0x0b3f59e9792b9fae},
	{"(d2 x f2)", 0x644cd984a3432fe1, 0x2d7d3126a08b515b, 0x207b18b87d309f0a},
	{"(d3 x (f5 x f2))", 0x7d44a2243fe94a50, 0xb82fa796a657391f, 0xe9671488705f00ea},
	{"((d2 x f3) x (f4 x d5))", 0xa008e724c98e44d3, 0x2b9446f2d3d327ed, 0x75f828030d50ca70},
	{"b11((f4 x (f4 x f2)))", 0xb25551ebf6cd506f, 0x62dd7848b074066d, 0x845a247bc080dcc8},
	{"(f2 x b3((d3 x f2)))", 0x6677195e6d018327, 0xd6c9ad1762f88707, 0x7d11acd230524ffd},
	{"(b7((f4 x f4)) x (b3(d5) x f3))", 0x7f35dbeee95b0818, 0x81e9463f3bfa9484, 0xe6cb32395ac18251},
	{"(f2 x (f3 x (f3 x (f4 x f5))))", 0x3427ff77d02b047c, 0x2b1d2622d5bb0ad4, 0x477c8bbbe3c921a3},
	{"((f5 x f5) x (d5 x b5((f3 x f3))))", 0x53663ccce8877160, 0xe631018afd7ba845, 0xe2a3d7561e03f34d},
	{"(f3 x (f3 x (f5 x (d7 x d13))))", 0xddb309d3c5cd9895, 0x1b7773f7eb39d817, 0x62ae15334ff11ea2},
	{"(f4 x (f4 x (f4 x (f4 x (f4 x f4)))))", 0x470a8676dd87f213, 0xe94db6a2e7129228, 0x40069b5141941323},
}
