package plan

import (
	"hash/fnv"
	"math"
	"math/rand"
	"slices"
	"sync"
	"testing"

	"timbre/api"
	"timbre/order"
	"timbre/planner"
)

var fewLeaves = []api.Order{order.Direct(1), order.Direct(2), order.Direct(3), order.Fly(2), order.Fly(3), order.Fly(4), order.Fly(5)}

// leaves are all orders that aren't taken apart.
func leaves() []api.Order {
	var all []api.Order
	for n := 1; n <= api.MaxDirect; n++ {
		all = append(all, order.Direct(n))
	}
	for r := 2; r <= 5; r++ {
		all = append(all, order.Fly(r))
	}
	return all
}

// usuals are the usual orders of some lengths, and deeper ones.
func usuals(t *testing.T) []api.Order {
	t.Helper()
	var all []api.Order
	for n := 1; n <= 400; n += 1 + n/12 {
		all = append(all, must(planner.Choose(n, planner.Usual())))
	}
	for _, n := range []int{719, 1000, 1021, 1024, 2187, 4095, 4096} {
		all = append(all, must(planner.Choose(n, planner.Usual())))
	}
	for _, s := range []string{
		"b2(d3)", "b3(b5(d9))", "b2(b3(b5((f3 x d3))))", "(b2(f3) x b2(f3))", "((f2 x d2) x (d2 x f2))", "b6((b3(f5) x b4((f2 x d4))))",
		"(f2 x (f2 x (f2 x (f2 x (f2 x (f2 x f2))))))", "((((((d2 x f2) x d2) x f2) x d2) x f2) x d2)", "b5000((d5 x (d40 x d50)))", "(d64 x (d64 x f4))",
	} {
		all = append(all, parsed(s))
	}
	return all
}

// P20.1, P2: all leaves, all small orders, usual ones and any others, in both ways, whatever floats are in the lists.
func TestTransforms(t *testing.T) {
	r := rand.New(rand.NewSource(31))
	orders := leaves()
	small := smallOrders(fewLeaves[1:], 2)
	if len(small) < 300 {
		t.Error("so few small orders:", len(small))
	}
	orders = append(orders, small...)
	orders = append(orders, usuals(t)...)
	for range 300 {
		orders = append(orders, anyOrder(r, 1+r.Intn(5)))
	}
	for i, o := range orders {
		p := planOf(t, o, ways[i%2])
		q := planOf(t, o, ways[1-i%2])
		holdTransforms(t, p, o, anyList(r, lengthOf(o), false))
		holdTransforms(t, q, o, anyList(r, lengthOf(o), r.Intn(2) == 0))
	}
}

// P20.1 where each float is odd, or one alone is.
func TestOddFloats(t *testing.T) {
	r := rand.New(rand.NewSource(32))
	for _, s := range []string{"d1", "d4", "f2", "f3", "f4", "f5", "(f2 x d3)", "(d2 x (f3 x f2))", "b2(f4)", "b3((f3 x f2))", "(f2 x b3(b5((d3 x f3))))"} {
		o := parsed(s)
		for _, way := range ways {
			p := planOf(t, o, way)
			for _, f := range []float64{nan, inf, -inf, minusZero, 0, math.MaxFloat64, -5e-324, 0x1p-1022} {
				holdTransforms(t, p, o, slices.Repeat([]complex128{complex(f, f)}, lengthOf(o)))
				holdTransforms(t, p, o, slices.Repeat([]complex128{complex(f, -f)}, lengthOf(o)))
				for at := range lengthOf(o) {
					x := anyList(r, lengthOf(o), false)
					x[at] = complex(f, imag(x[at]))
					holdTransforms(t, p, o, x)
					x[at] = complex(1, f)
					holdTransforms(t, p, o, x)
				}
			}
		}
	}
}

// Example 7 of the whole.
func TestOneNaN(t *testing.T) {
	p := planOf(t, order.Fly(4), api.Deep)
	for at := range 4 {
		for _, odd := range []complex128{complex(nan, 0), complex(0, nan)} {
			x := []complex128{1, 2, 3, 4}
			x[at] = odd
			y := must(p.Forward(x))
			for k, v := range y {
				if !math.IsNaN(real(v)) && !math.IsNaN(imag(v)) {
					t.Errorf("%v at %d: the answer %d is %v", odd, at, k, v)
				}
			}
		}
	}
}

// given is a list that another program can make too.
func given(n int) []complex128 {
	state := uint64(n)
	part := func() float64 {
		state = state*6364136223846793005 + 1442695040888963407
		return math.Ldexp(float64(state>>11)-0x1p52, -45-int(state>>5%8))
	}
	out := make([]complex128, n)
	for i := range out {
		re := part()
		out[i] = complex(re, part())
	}
	return out
}

// sumOf is FNV-1a of the bits of a list, the lowest bytes first.
func sumOf(list []complex128) uint64 {
	sum := fnv.New64a()
	var b [8]byte
	for _, w := range list {
		for _, f := range []float64{real(w), imag(w)} {
			for i := range b {
				b[i] = byte(math.Float64bits(f) >> (8 * i))
			}
			sum.Write(b[:])
		}
	}
	return sum.Sum64()
}

// Transforms by another program, written from the document alone: roots, butterflies and chirps too.
func TestKnownBits(t *testing.T) {
	for _, c := range []struct {
		order                   string
		given, forward, inverse uint64
	}{
		{"d1", 0xfc5db54eadd64f26, 0xfc5db54eadd64f26, 0xfc5db54eadd64f26},
		{"f2", 0x1eeba7c2987632ea, 0xba658428d59d76eb, 0x4f8679ed3ced44eb},
		{"f3", 0x5d42f93df8274bae, 0x8c79be608dcf3b7b, 0x884bd380d6638c7d},
		{"f4", 0x644cd984a3432fe1, 0x2d7d3126a08b515b, 0x207b18b87d309f0a},
		{"f5", 0xd3bf132feb80468f, 0x9e0e6d23111c2be1, 0x43a40271a472024f},
		{"d7", 0x899e153ece1d5258, 0x594e620e3b29278a, 0x6e432610806a1490},
		{"d64", 0x228a73a423718da7, 0xa6564ab3eab99d0c, 0xeae1fb5018d444d0},
		{"(f2 x d3)", 0x6677195e6d018327, 0xedd7358cb63da314, 0x0b3f59e9792b9fae},
		{"(d2 x f2)", 0x644cd984a3432fe1, 0x2d7d3126a08b515b, 0x207b18b87d309f0a},
		{"(d3 x (f5 x f2))", 0x7d44a2243fe94a50, 0xb82fa796a657391f, 0xe9671488705f00ea},
		{"((d2 x f3) x (f4 x d5))", 0xa008e724c98e44d3, 0x2b9446f2d3d327ed, 0x75f828030d50ca70},
		{"b2(f4)", 0x1eeba7c2987632ea, 0xd481030619726e8a, 0xafed27e23569634a},
		{"b11((f4 x (f4 x f2)))", 0xb25551ebf6cd506f, 0x62dd7848b074066d, 0x845a247bc080dcc8},
		{"b15(((f4 x f4) x f2))", 0x5fa41a6f61641185, 0xab93584a712a7574, 0x1f08941e49f70a46},
		{"(f2 x b3((d3 x f2)))", 0x6677195e6d018327, 0xd6c9ad1762f88707, 0x7d11acd230524ffd},
		{"b5(b9((f5 x d4)))", 0xd3bf132feb80468f, 0xdfbd323854efe5ba, 0x42d0b46e2e38907d},
		{"(b7((f4 x f4)) x (b3(d5) x f3))", 0x7f35dbeee95b0818, 0x81e9463f3bfa9484, 0xe6cb32395ac18251},
		{"(f4 x (f4 x f4))", 0x228a73a423718da7, 0xef0b64c07207816f, 0x283b7256b6b0278b},
		{"(f2 x (f3 x (f3 x (f4 x f5))))", 0x3427ff77d02b047c, 0x2b1d2622d5bb0ad4, 0x477c8bbbe3c921a3},
		{"b97((f4 x (f4 x (f4 x f4))))", 0xd12ef1aea15304ec, 0x23122d2181cfa9b4, 0xc0a0ea00d4dd93ca},
		{"((f5 x f5) x (d5 x b5((f3 x f3))))", 0x53663ccce8877160, 0xe631018afd7ba845, 0xe2a3d7561e03f34d},
		{"(f3 x (f3 x (f5 x (d7 x d13))))", 0xddb309d3c5cd9895, 0x1b7773f7eb39d817, 0x62ae15334ff11ea2},
		{"b1021((f2 x (f4 x (f4 x (f4 x (f4 x f4))))))", 0xc84fceed699a131b, 0xc17618b144c8a4ed, 0xc14e92227ad9c315},
		{"(f4 x (f4 x (f4 x (f4 x (f4 x f4)))))", 0x470a8676dd87f213, 0xe94db6a2e7129228, 0x40069b5141941323},
		{"b4093((f2 x (f4 x (f4 x (f4 x (f4 x (f4 x f4)))))))", 0x23f404e4f49216c4, 0xbf153b9d66956446, 0x7767868dd06fa6ba},
		{"b1000((d45 x d45))", 0xe0c9754e181e66a5, 0x46c608ca2f1c9e46, 0xe1267de738195697},
		{"b8192((f4 x (f4 x (f4 x (f4 x d64)))))", 0x7a3cc1b0627257bf, 0xb7c26be8195f831a, 0xefb54c38aa948129},
	} {
		for _, way := range ways {
			p := planOf(t, parsed(c.order), way)
			x := given(p.Length())
			got := [3]uint64{sumOf(x), sumOf(must(p.Forward(x))), sumOf(must(p.Inverse(x)))}
			if want := [3]uint64{c.given, c.forward, c.inverse}; got != want {
				t.Errorf("%s: the sums are %x, want %x", p.Text(), got, want)
			}
		}
	}
}

// P20.3, P4: both ways, read from texts and bytes, and several goroutines at a time.
func TestOfOneOrder(t *testing.T) {
	r := rand.New(rand.NewSource(33))
	orders := slices.Concat(leaves()[:9], usuals(t))
	for range 100 {
		orders = append(orders, anyOrder(r, 4))
	}
	for _, o := range orders {
		var plans []*Plan
		for _, way := range ways {
			p := planOf(t, o, way)
			read, decoded := must(Parse(p.Text())), must(Decode(p.Encode()))
			again := must(Of(decoded.Order(), read.Way()))
			for _, q := range []*Plan{p, read, decoded, again} {
				holdPlan(t, q, o, way)
				plans = append(plans, q)
			}
		}
		x := anyList(r, lengthOf(o), r.Intn(3) == 0)
		there, back := must(plans[0].Forward(x)), must(plans[0].Inverse(x))
		var all sync.WaitGroup
		for i := range 2 * len(plans) {
			p := plans[i/2]
			all.Go(func() {
				if y, err := p.Forward(x); err != nil || !alike(y, there) {
					t.Errorf("Forward of %s is another one, %v", p.Text(), err)
				}
				if y, err := p.Inverse(x); err != nil || !alike(y, back) {
					t.Errorf("Inverse of %s is another one, %v", p.Text(), err)
				}
				holdPlan(t, p, p.Order(), p.Way())
			})
		}
		all.Wait()
	}
}

// whole is a complex number of whole numbers.
type whole struct{ re, im int }

func floats(x []whole) []complex128 {
	var out []complex128
	for _, v := range x {
		out = append(out, complex(float64(v.re), float64(v.im)))
	}
	return out
}

// wholeSums are the sums of x[j] times (-i)^(4jk/n).
func wholeSums(x []whole) []complex128 {
	var out []whole
	for k := range x {
		var sum whole
		for j, v := range x {
			for range 4 * j * k / len(x) % 4 {
				v = whole{v.im, -v.re}
			}
			sum = whole{sum.re + v.re, sum.im + v.im}
		}
		out = append(out, sum)
	}
	return floats(out)
}

// P20.5, P5: exact lists of whole numbers.
func TestWholeNumbers(t *testing.T) {
	const top = 1 << 40
	var plans []*Plan
	for _, s := range []string{"d1", "d2", "d4", "f2", "f4"} {
		plans = append(plans, planOf(t, parsed(s), api.Deep), planOf(t, parsed(s), api.Wide))
	}
	hold := func(x []whole) {
		t.Helper()
		for _, p := range plans {
			if p.Length() != len(x) {
				continue
			}
			if y := must(p.Forward(floats(x))); !slices.Equal(y, wholeSums(x)) {
				t.Fatalf("%s: Forward of %v is %v, want %v", p.Text(), x, y, wholeSums(x))
			}
		}
	}
	sides := []int{0, 1, -1, top, -top, top - 1}
	for _, a := range sides {
		for _, b := range sides {
			hold([]whole{{a, b}})
			for _, c := range sides {
				for _, d := range sides {
					hold([]whole{{a, b}, {c, d}})
					hold([]whole{{a, c}, {b, d}, {d, -a}, {c, -b}})
					hold([]whole{{a, -a}, {b, -b}, {-c, c}, {-d, d}})
				}
			}
		}
	}
	r := rand.New(rand.NewSource(34))
	for range 2000 {
		bound := 1 << (1 + r.Intn(40))
		part := func() int { return r.Intn(2*bound+1) - bound }
		for _, n := range []int{1, 2, 4} {
			x := make([]whole, n)
			for j := range x {
				x[j] = whole{part(), part()}
			}
			hold(x)
		}
	}
}

// calmKinds are ways to choose floats of which many transforms are calm: about 1, near either bound, far apart, and with many noughts.
func calmKinds() []func(r *rand.Rand) float64 {
	at := func(r *rand.Rand, power int) float64 {
		return math.Ldexp(float64(2*r.Intn(2)-1)*(1+r.Float64()), power)
	}
	nought := func(r *rand.Rand, f float64) float64 { return []float64{0, minusZero, f, f}[r.Intn(4)] }
	return []func(r *rand.Rand) float64{
		func(r *rand.Rand) float64 { return at(r, 0) },
		func(r *rand.Rand) float64 { return at(r, r.Intn(1500)-750) },
		func(r *rand.Rand) float64 { return at(r, 870+r.Intn(12)) },
		func(r *rand.Rand) float64 { return at(r, -830+r.Intn(12)) },
		func(r *rand.Rand) float64 { return nought(r, at(r, r.Intn(100)-50)) },
		func(r *rand.Rand) float64 { return nought(r, float64(r.Intn(7)-3)) },
		func(r *rand.Rand) float64 { return nought(r, 0) },
	}
}

func isCalm(o api.Order, x []complex128) bool {
	watch := new(oracle)
	for _, v := range x {
		watch.watched(real(v))
		watch.watched(imag(v))
	}
	watch.forward(o, x)
	return !watch.wild
}

// P20.5, P6: lists turned and scaled.
func TestTurnedAndScaled(t *testing.T) {
	r := rand.New(rand.NewSource(35))
	orders := slices.Concat(leaves()[:20], smallOrders(fewLeaves[2:], 1), usuals(t))
	for range 60 {
		orders = append(orders, anyOrder(r, 4))
	}
	calmOnes := 0
	for i, o := range orders {
		p := planOf(t, o, ways[i%2])
		kinds := calmKinds()
		if lengthOf(o) > 200 { // long lists by one kind alone, since they take so long
			kinds = kinds[i%6:][:1]
		}
		for _, kind := range kinds {
			x := make([]complex128, lengthOf(o))
			for j := range x {
				x[j] = complex(kind(r), kind(r))
			}
			if !isCalm(o, x) {
				continue
			}
			calmOnes++
			y := must(p.Forward(x))
			law := func(name string, do func(complex128) complex128) {
				t.Helper()
				if got, want := must(p.Forward(each(x, do))), each(y, do); !slices.Equal(got, want) {
					t.Fatalf("%s: Forward of %s times %v is %v, not %v", p.Text(), name, x, got, want)
				}
			}
			law("minus 1", minus)
			law("i", timesI)
			for _, k := range []int{-64, 64, 1, -1, r.Intn(129) - 64} {
				power := math.Ldexp(1, k)
				law("a power of two", func(v complex128) complex128 { return complex(real(v)*power, imag(v)*power) })
			}
		}
		for range 3 { // of noughts come noughts
			x := make([]complex128, lengthOf(o))
			for j := range x {
				x[j] = complex(calmKinds()[6](r), calmKinds()[6](r))
			}
			if y := must(p.Forward(x)); slices.ContainsFunc(y, func(v complex128) bool { return v != 0 }) {
				t.Fatalf("%s: Forward of noughts is %v", p.Text(), y)
			}
		}
	}
	if calmOnes < 500 {
		t.Errorf("only %d lists are calm", calmOnes)
	}
}

// P8: every length has a plan, the cheapest order's by the usual policy in the deep way.
func TestEveryLength(t *testing.T) {
	for n := 1; n <= api.MaxLen; n++ {
		p, err := New(n)
		if err != nil || p.Length() != n || p.Way() != api.Deep {
			t.Fatalf("New(%d): %v", n, err)
		}
		if n%64 == 1 || n > 4090 {
			holdPlan(t, p, must(planner.Choose(n, planner.Usual())), api.Deep)
		}
	}
}
