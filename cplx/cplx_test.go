package cplx

import (
	"math"
	"math/big"
	"math/rand"
	"slices"
	"testing"

	"timbre/bits"
)

const (
	least  = 0x1p-1074 // the least float above 0
	normal = 0x1p-1022 // the least normal float
	most   = math.MaxFloat64
)

var (
	minusZero = math.Copysign(0, -1)
	inf       = math.Inf(1)
	nan       = math.NaN()
)

// someNaN are NaN of several bits: either sign, quiet and not.
var someNaN = []float64{nan, math.Float64frombits(0x7ff0000000000001), math.Float64frombits(0x7fffffffffffffff), math.Float64frombits(0xfff0000000000001), math.Float64frombits(0xfff8000000000000), math.Float64frombits(0xffffffffffffffff)}

// The oracle's operations: calls that aren't inlined, so that no two of them can be fused.

//go:noinline
func add(x, y float64) float64 { return x + y }

//go:noinline
func sub(x, y float64) float64 { return x - y }

//go:noinline
func mul(x, y float64) float64 { return x * y }

//go:noinline
func quo(x, y float64) float64 { return x / y }

// size and turned are |x| and -x as the chapter says them: by the sign bit.
func size(x float64) float64   { return math.Float64frombits(math.Float64bits(x) &^ (1 << 63)) }
func turned(x float64) float64 { return math.Float64frombits(math.Float64bits(x) ^ 1<<63) }

func alikeFloats(x, y float64) bool {
	return math.Float64bits(x) == math.Float64bits(y) || x != x && y != y
}

func alike(a, b complex128) bool {
	return alikeFloats(real(a), real(b)) && alikeFloats(imag(a), imag(b))
}

func hasNaN(a complex128) bool { return real(a) != real(a) || imag(a) != imag(a) }

// edges are floats of every kind that the chapter names, of both signs, and a NaN.
func edges() []float64 {
	var list []float64
	for _, f := range []float64{0, least, 3 * least, normal - least, normal, 0x1p-537, 0.3, 1, 1 + 0x1p-52, 3, 0x1.fffffffffffffp511, 0x1p1023, most, inf} {
		list = append(list, f, -f)
	}
	list[1] = minusZero
	return append(list, nan)
}

// pairsOf are all complex numbers of two floats of a list.
func pairsOf(list []float64) []complex128 {
	var out []complex128
	for _, x := range list {
		for _, y := range list {
			out = append(out, complex(x, y))
		}
	}
	return out
}

// random are floats of any bits and floats near 1, the seed always the same.
func random(count int) []complex128 {
	r := rand.New(rand.NewSource(2))
	any := func() float64 { return math.Float64frombits(r.Uint64()) }
	near := func() float64 { return math.Ldexp(r.Float64()*2-1, r.Intn(40)-20) }
	var out []complex128
	for range count {
		out = append(out, complex(any(), any()), complex(near(), near()), complex(near(), any()))
	}
	return out
}

// samples are complex numbers of all edges, and random ones.
func samples() []complex128 { return append(pairsOf(edges()), random(400)...) }

// eachPair goes over pairs of samples: all of the edges, and many random ones.
func eachPair(do func(a, b complex128)) {
	list := pairsOf(edges())
	for _, a := range list {
		for _, b := range list {
			do(a, b)
		}
	}
	list = random(300)
	for _, a := range list {
		for _, b := range list {
			do(a, b)
		}
	}
}

func TestEdgesAreThere(t *testing.T) {
	for _, f := range []float64{0, minusZero, 1, -1, least, -least, normal, -normal, most, -most, inf, -inf, nan} {
		if !slices.ContainsFunc(edges(), func(g float64) bool { return alikeFloats(f, g) }) {
			t.Errorf("%v isn't among the edges", f)
		}
	}
}

func TestSame(t *testing.T) {
	list := samples()
	for i, a := range list {
		for _, b := range list[:min(i+1, 1000)] {
			if Same(a, b) != alike(a, b) || Same(b, a) != alike(a, b) {
				t.Fatalf("Same(%v, %v) = %v, %v", a, b, Same(a, b), Same(b, a))
			}
		}
	}
	for _, x := range someNaN {
		for _, y := range someNaN {
			if !Same(complex(x, 1), complex(y, 1)) || !Same(complex(1, x), complex(1, y)) || !Same(complex(x, y), complex(y, x)) {
				t.Errorf("NaN %x and %x are told unlike", math.Float64bits(x), math.Float64bits(y))
			}
			if Same(complex(x, 1), complex(y, 2)) || Same(complex(x, 0), complex(0, y)) || Same(complex(2, x), complex(1, y)) {
				t.Errorf("numbers with NaN %x and %x are told alike", math.Float64bits(x), math.Float64bits(y))
			}
		}
	}
}

func TestSameList(t *testing.T) {
	type list = []complex128
	for _, c := range []struct {
		a, b list
		want bool
	}{
		{nil, nil, true}, {nil, list{}, true}, {list{}, nil, true}, {list{0}, nil, false}, {nil, list{0}, false},
		{list{1, complex(someNaN[1], 2), -1i}, list{1, complex(someNaN[5], 2), -1i}, true},
		{list{1, 0}, list{1, complex(0, minusZero)}, false}, {list{complex(minusZero, 0), 1}, list{0, 1}, false},
		{list{1, 2}, list{1, 2, 3}, false}, {list{1, 2, 3}, list{1, 2}, false},
		{list{1, 2, 3}, list{1, 2, 4}, false}, {list{9, 2, 3}, list{1, 2, 3}, false}, {list{1, 2i, 3}, list{1, 2, 3}, false},
	} {
		if got := SameList(c.a, c.b); got != c.want {
			t.Errorf("SameList(%v, %v) = %v", c.a, c.b, got)
		}
	}
}

// The chapter's examples.
func TestExamples(t *testing.T) {
	for i, c := range []struct{ got, want complex128 }{
		{Mul(complex(1, 2), complex(3, 4)), complex(-5, 10)},
		{Mul(complex(0, 1), complex(0, 1)), complex(-1, 0)},
		{Mul(complex(inf, 0), complex(0, 1)), complex(nan, inf)},
		{TimesI(complex(1, 0)), complex(minusZero, 1)},
		{TimesI(complex(0, 1)), complex(-1, 0)},
		{TimesI(complex(inf, 0)), complex(minusZero, inf)},
		{Conj(complex(1, 0)), complex(1, minusZero)},
		{Quo(complex(1, 2), complex(3, 4)), complex(quo(2.75, 6.25), quo(0.5, 6.25))},
		{Quo(complex(1, 0), complex(0, 0)), complex(nan, nan)},
		{Over(complex(1, minusZero), 2), complex(0.5, minusZero)},
		{Over(complex(1, 0), 0), complex(inf, nan)},
	} {
		if !alike(c.got, c.want) {
			t.Errorf("example %d: %v, want %v", i, c.got, c.want)
		}
	}
	for i, c := range []struct{ got, want float64 }{
		{Abs(complex(3, 4)), 5}, {Abs(complex(nan, -inf)), inf}, {Norm(complex(3, 4)), 25}, {Norm(complex(1e200, 0)), inf}, {Abs(complex(1e200, 0)), 1e200},
	} {
		if !alikeFloats(c.got, c.want) {
			t.Errorf("size %d: %v, want %v", i, c.got, c.want)
		}
	}
	zero := complex(minusZero, 0)
	if got, want := Distinct([]complex128{0, 1, zero, 0}), []complex128{zero, 0, 1}; !SameList(got, want) {
		t.Errorf("Distinct: %v, want %v", got, want)
	}
}

func wantMul(a, b complex128) complex128 {
	return complex(
		sub(mul(real(a), real(b)), mul(imag(a), imag(b))),
		add(mul(real(a), imag(b)), mul(imag(a), real(b))))
}

func TestMul(t *testing.T) {
	eachPair(func(a, b complex128) {
		got := Mul(a, b)
		if !alike(got, wantMul(a, b)) {
			t.Fatalf("Mul(%v, %v) = %v, want %v", a, b, got, wantMul(a, b))
		}
		if !alike(got, Mul(b, a)) {
			t.Fatalf("Mul(%v, %v) and turned round: %v, %v", a, b, got, Mul(b, a))
		}
		if hasNaN(got) {
			return
		}
		if Mul(TimesI(a), b) != TimesI(got) || Mul(Neg(a), b) != Neg(got) || Mul(Conj(a), Conj(b)) != Conj(got) {
			t.Fatalf("Mul(%v, %v) = %v: a turn of it is another", a, b, got)
		}
	})
}

// Products whose parts would come out otherwise if a product and the sum behind it were one rounding.
func TestMulIsNotFused(t *testing.T) {
	const x = 1 + 0x1p-30 // its square is 1 + 2^-29 and 2^-60, which is rounded off
	for _, c := range []struct {
		a, b, want complex128
	}{
		{complex(x, x), complex(x, x), complex(0, 2+0x1p-28)},
		{complex(x, -x), complex(x, x), complex(2+0x1p-28, 0)},
	} {
		ac, bd := mul(real(c.a), real(c.b)), mul(imag(c.a), imag(c.b))
		ad, bc := mul(real(c.a), imag(c.b)), mul(imag(c.a), real(c.b))
		for _, fused := range []complex128{
			complex(math.FMA(real(c.a), real(c.b), -bd), math.FMA(real(c.a), imag(c.b), bc)),
			complex(math.FMA(-imag(c.a), imag(c.b), ac), math.FMA(imag(c.a), real(c.b), ad)),
		} {
			if fused == c.want {
				t.Errorf("%v times %v doesn't tell the two ways apart", c.a, c.b)
			}
		}
		if got := Mul(c.a, c.b); !alike(got, c.want) {
			t.Errorf("Mul(%v, %v) = %v, want %v", c.a, c.b, got, c.want)
		}
	}
}

func TestMulOfWholeNumbersIsExact(t *testing.T) {
	wholes := []int64{0, 1, -1, 2, 3, -7, 1<<25 - 1, 1 << 25, -1 << 25, 1 - 1<<25}
	r := rand.New(rand.NewSource(3))
	for range 4 {
		wholes = append(wholes, r.Int63n(1<<26)-1<<25)
	}
	for _, a := range wholes {
		for _, b := range wholes {
			for _, c := range wholes {
				for _, d := range wholes {
					got := Mul(complex(float64(a), float64(b)), complex(float64(c), float64(d)))
					if int64(real(got)) != a*c-b*d || int64(imag(got)) != a*d+b*c {
						t.Fatalf("Mul((%d, %d), (%d, %d)) = %v", a, b, c, d, got)
					}
				}
			}
		}
	}
}

func wantQuo(p, q complex128) complex128 {
	a, b, c, d := real(p), imag(p), real(q), imag(q)
	if size(c) >= size(d) {
		r := quo(d, c)
		t := add(c, mul(d, r))
		return complex(quo(add(a, mul(b, r)), t), quo(sub(b, mul(a, r)), t))
	}
	r := quo(c, d)
	t := add(mul(c, r), d)
	return complex(quo(add(mul(a, r), b), t), quo(sub(mul(b, r), a), t))
}

func TestQuo(t *testing.T) {
	eachPair(func(a, b complex128) {
		got := Quo(a, b)
		if !alike(got, wantQuo(a, b)) {
			t.Fatalf("Quo(%v, %v) = %v, want %v", a, b, got, wantQuo(a, b))
		}
		if hasNaN(got) {
			return
		}
		if Quo(Neg(a), b) != Neg(got) || Quo(Conj(a), Conj(b)) != Conj(got) || Quo(TimesI(a), b) != TimesI(got) {
			t.Fatalf("Quo(%v, %v) = %v: a turn of it is another", a, b, got)
		}
	})
}

func TestQuoByHand(t *testing.T) {
	for _, c := range []struct{ a, b, want complex128 }{
		{complex(1, 2), complex(4, 3), complex(0.4, 0.2)},                            // r = 0.75, t = 6.25: 2.5 and 1.25
		{complex(1, 2), complex(-4, 3), complex(quo(-0.5, -6.25), quo(2.75, -6.25))}, // the sign of a part doesn't choose the way
		{complex(1, 2), complex(3, -4), complex(quo(1.25, -6.25), quo(-2.5, -6.25))},
		{complex(1, 2), complex(2, 2), complex(0.75, 0.25)}, // as great: the first way
		{complex(1, 2), complex(2, -2), complex(-0.25, 0.75)},
		{complex(6, -4), complex(2, 0), complex(3, -2)},
		{complex(6, -4), complex(0, 2), complex(-2, -3)},
		{complex(1, 1), complex(inf, 1), complex(0, 0)},
		{complex(1, 1), complex(1, inf), complex(0, minusZero)},
		{complex(1, 1), complex(inf, inf), complex(nan, nan)},
		{complex(inf, 1), complex(1, 0), complex(inf, nan)}, // Inf times 0
		{complex(1, 1), complex(nan, 1), complex(nan, nan)},
		{complex(1, 1), complex(1, nan), complex(nan, nan)},
		{complex(1, 0), complex(most, most), complex(0, minusZero)}, // t is infinite: nothing is mended
		{complex(0, 0), complex(minusZero, minusZero), complex(nan, nan)},
	} {
		if got := Quo(c.a, c.b); !alike(got, c.want) {
			t.Errorf("Quo(%v, %v) = %v, want %v", c.a, c.b, got, c.want)
		}
	}
}

func TestTurns(t *testing.T) {
	for _, a := range samples() {
		x, y := real(a), imag(a)
		for i, c := range []struct{ got, want complex128 }{
			{Conj(a), complex(x, turned(y))},
			{TimesI(a), complex(turned(y), x)},
			{MinusI(a), complex(y, turned(x))},
			{Neg(a), complex(turned(x), turned(y))},
			{Swap(a), complex(y, x)},
			{TimesI(TimesI(TimesI(TimesI(a)))), a},
			{Conj(Conj(a)), a},
			{Neg(Neg(a)), a},
			{Swap(Swap(a)), a},
			{MinusI(TimesI(a)), a},
			{TimesI(MinusI(a)), a},
			{TimesI(TimesI(a)), Neg(a)},
			{Swap(Conj(a)), TimesI(a)},
		} {
			if !alike(c.got, c.want) {
				t.Errorf("turn %d of %v: %v, want %v", i, a, c.got, c.want)
			}
		}
	}
}

// A nought changes its sign, and nothing else happens to it.
func TestTurnsOfNoughts(t *testing.T) {
	a := complex(0, minusZero)
	for i, c := range []struct{ got, want complex128 }{
		{Conj(a), complex(0, 0)}, {TimesI(a), complex(0, 0)}, {MinusI(a), complex(minusZero, minusZero)}, {Neg(a), complex(minusZero, 0)}, {Swap(a), complex(minusZero, 0)},
		{Conj(0), complex(0, minusZero)}, {TimesI(0), complex(minusZero, 0)}, {MinusI(0), complex(0, minusZero)}, {Neg(0), complex(minusZero, minusZero)},
	} {
		if !alike(c.got, c.want) {
			t.Errorf("turn %d: %v, want %v", i, c.got, c.want)
		}
	}
}

func TestOver(t *testing.T) {
	for _, n := range []int{0, 1, -1, 2, 3, -3, 10, 49, 4096, 1<<24 + 1, 1<<53 - 1, 1<<53 + 1, math.MaxInt, math.MinInt} {
		for _, a := range samples() {
			if got, want := Over(a, n), complex(quo(real(a), float64(n)), quo(imag(a), float64(n))); !alike(got, want) {
				t.Fatalf("Over(%v, %d) = %v, want %v", a, n, got, want)
			}
		}
	}
	for _, c := range []struct {
		a    complex128
		n    int
		want complex128
	}{
		{complex(49, 5), 49, complex(1, quo(5, 49))}, // 49 times the rounded 1/49 isn't 1
		{complex(-1, minusZero), 0, complex(-inf, nan)},
		{complex(1, minusZero), -1, complex(-1, 0)},
		{complex(0x1p53, 0x1p54), 1<<53 + 1, complex(1, 2)},
		{complex(0x1p63, -0x1p62), math.MaxInt, complex(1, -0.5)},
		{complex(0x1p63, least), math.MinInt, complex(-1, minusZero)},
		{complex(inf, nan), 3, complex(inf, nan)},
	} {
		if got := Over(c.a, c.n); !alike(got, c.want) {
			t.Errorf("Over(%v, %d) = %v, want %v", c.a, c.n, got, c.want)
		}
	}
}

func TestTimes(t *testing.T) {
	for _, f := range edges() {
		for _, a := range samples() {
			if got, want := Times(a, f), complex(mul(real(a), f), mul(imag(a), f)); !alike(got, want) {
				t.Fatalf("Times(%v, %v) = %v, want %v", a, f, got, want)
			}
		}
	}
	// A product by (f, 0) would make a NaN of the infinity's other part.
	if got, want := Times(complex(inf, minusZero), -2), complex(-inf, 0); !alike(got, want) {
		t.Errorf("Times(Inf, -0 by -2) = %v", got)
	}
}

func wantAbs(a complex128) float64 {
	x, y := size(real(a)), size(imag(a))
	switch {
	case x == inf || y == inf:
		return inf
	case x != x || y != y:
		return nan
	case x == 0 && y == 0:
		return 0
	case x < y:
		x, y = y, x
	}
	q := quo(y, x)
	return mul(x, math.Sqrt(add(1, mul(q, q))))
}

func TestSizes(t *testing.T) {
	for _, a := range samples() {
		norm, abs := Norm(a), Abs(a)
		if want := add(mul(real(a), real(a)), mul(imag(a), imag(a))); !alikeFloats(norm, want) {
			t.Errorf("Norm(%v) = %v, want %v", a, norm, want)
		}
		if want := wantAbs(a); !alikeFloats(abs, want) {
			t.Errorf("Abs(%v) = %v, want %v", a, abs, want)
		}
		for i, b := range []complex128{Conj(a), Neg(a), Swap(a), TimesI(a)} {
			if !alikeFloats(Norm(b), norm) || !alikeFloats(Abs(b), abs) {
				t.Errorf("turn %d of %v: %v, %v, not %v, %v", i, a, Norm(b), Abs(b), norm, abs)
			}
		}
		if hasNaN(a) {
			continue
		}
		if abs < size(real(a)) || abs < size(imag(a)) || (abs == 0) != (a == 0) {
			t.Errorf("Abs(%v) = %v", a, abs)
		}
	}
}

func TestSizesByHand(t *testing.T) {
	for _, c := range []struct {
		a         complex128
		norm, abs float64
	}{
		{complex(3, 4), 25, 5}, {complex(-12, 5), 169, 13}, {complex(0, -7), 49, 7}, {complex(minusZero, minusZero), 0, 0}, {complex(0, minusZero), 0, 0},
		{complex(inf, nan), nan, inf}, {complex(nan, inf), nan, inf}, {complex(-inf, nan), nan, inf}, {complex(nan, -inf), nan, inf}, {complex(-inf, 1), inf, inf}, {complex(1, -inf), inf, inf}, {complex(inf, -inf), inf, inf},
		{complex(nan, 0), nan, nan}, {complex(0, nan), nan, nan}, {complex(someNaN[5], someNaN[3]), nan, nan},
		{complex(most, 0), inf, most}, {complex(most, most), inf, inf}, {complex(0, least), 0, least}, {complex(-least, 0), 0, least}, {complex(least, least), 0, least},
		{complex(3*least, 4*least), 0, 5 * least}, {complex(0x3p1000, 0x4p1000), inf, 0x5p1000},
	} {
		if got := Norm(c.a); !alikeFloats(got, c.norm) {
			t.Errorf("Norm(%v) = %v, want %v", c.a, got, c.norm)
		}
		if got := Abs(c.a); !alikeFloats(got, c.abs) {
			t.Errorf("Abs(%v) = %v, want %v", c.a, got, c.abs)
		}
	}
}

// Abs is what the chapter's steps come to, not the float nearest to the distance, and not what another way comes to.
func TestAbsByItsSteps(t *testing.T) {
	hypot, root := 0, 0
	for _, a := range random(400) {
		if hasNaN(a) || math.IsInf(Norm(a), 0) || Norm(a) < normal {
			continue
		}
		if Abs(a) != math.Sqrt(Norm(a)) {
			root++
		}
		exact := new(big.Float).SetPrec(300).SetFloat64(real(a))
		other := new(big.Float).SetPrec(300).SetFloat64(imag(a))
		exact.Add(exact.Mul(exact, exact), other.Mul(other, other)).Sqrt(exact)
		nearest, _ := exact.Float64()
		if Abs(a) != nearest {
			hypot++
		}
		if math.Abs(Abs(a)-nearest) > 3*0x1p-52*nearest {
			t.Errorf("Abs(%v) = %v, far from %v", a, Abs(a), nearest)
		}
	}
	if hypot == 0 || root == 0 {
		t.Error("no sample tells the ways apart")
	}
}

func TestCompare(t *testing.T) {
	list := samples()
	for _, a := range list {
		for _, b := range list[:1000] {
			want := bits.Compare(real(a), real(b))
			if want == 0 {
				want = bits.Compare(imag(a), imag(b))
			}
			if got := Compare(a, b); got != want || (got == 0) != alike(a, b) || sign(Compare(b, a)) != -sign(got) {
				t.Fatalf("Compare(%v, %v) = %d, turned round %d, want %d", a, b, got, Compare(b, a), want)
			}
		}
	}
}

func sign(c int) int {
	switch {
	case c < 0:
		return -1
	case c > 0:
		return 1
	}
	return 0
}

// The line as the chapters tell it: what stands ahead in the list stands ahead in the order, however far apart.
func TestCompareAlongTheLine(t *testing.T) {
	floats := []float64{-inf, -most, -1, -normal, -least, minusZero, 0, least, normal, 1, most, inf, nan}
	line := pairsOf(floats)
	for i, a := range line {
		for j, b := range line {
			if got := sign(Compare(a, b)); got != sign(i-j) {
				t.Errorf("Compare(%v, %v) = %d, want %d", a, b, got, sign(i-j))
			}
		}
	}
	for _, x := range someNaN {
		if Compare(complex(x, x), complex(nan, nan)) != 0 || Compare(complex(x, 1), complex(inf, 2)) <= 0 || Compare(complex(1, inf), complex(1, x)) >= 0 {
			t.Errorf("the NaN %x stands elsewhere", math.Float64bits(x))
		}
	}
}

func TestDistinct(t *testing.T) {
	r := rand.New(rand.NewSource(4))
	all := samples()
	for round := range 60 {
		var list []complex128
		for range round * 10 {
			list = append(list, all[r.Intn(20+len(all)*round/60)%len(all)])
		}
		got := Distinct(list)
		for i := 1; i < len(got); i++ {
			if Compare(got[i-1], got[i]) >= 0 {
				t.Fatalf("Distinct doesn't rise: %v, %v", got[i-1], got[i])
			}
		}
		for _, a := range list {
			if !slices.ContainsFunc(got, func(b complex128) bool { return alike(a, b) }) {
				t.Fatalf("Distinct has no %v", a)
			}
		}
		for _, a := range got {
			if !slices.ContainsFunc(list, func(b complex128) bool { return alike(a, b) }) {
				t.Fatalf("Distinct has %v, which the list hasn't", a)
			}
		}
		if !SameList(Distinct(got), got) {
			t.Fatalf("Distinct of Distinct: %v, not %v", Distinct(got), got)
		}
	}
}

func TestDistinctByHand(t *testing.T) {
	type list = []complex128
	for _, c := range []struct{ list, want list }{
		{nil, nil}, {list{}, nil}, {list{1i}, list{1i}}, {list{2, 2, 2}, list{2}},
		{list{complex(someNaN[1], 1), complex(inf, 1), complex(someNaN[5], 1)}, list{complex(inf, 1), complex(nan, 1)}},
		{list{complex(0, 0), complex(0, minusZero), complex(minusZero, 0), complex(minusZero, minusZero), 0}, list{complex(minusZero, minusZero), complex(minusZero, 0), complex(0, minusZero), complex(0, 0)}},
		{list{3i, 2, 1i, complex(2, -1), 3i}, list{1i, 3i, complex(2, -1), 2}},
	} {
		if got := Distinct(c.list); !SameList(got, c.want) {
			t.Errorf("Distinct(%v) = %v, want %v", c.list, got, c.want)
		}
	}
}

// rawBits are the bits of all that a list has room for.
func rawBits(list []complex128) []uint64 {
	var out []uint64
	for _, a := range list[:cap(list)] {
		out = append(out, math.Float64bits(real(a)), math.Float64bits(imag(a)))
	}
	return out
}

func TestListsAreNotChangedAndNotShared(t *testing.T) {
	back := []complex128{3, 1, complex(someNaN[3], 2), 1, 3, 2, 7, 7, 5}
	for _, list := range [][]complex128{back[:6], back[:0], back[2:3], back} {
		before := rawBits(back)
		got := Distinct(list)
		SameList(list, got)
		if !slices.Equal(rawBits(back), before) {
			t.Fatalf("Distinct changed what it was given: %v", back)
		}
		for i := range got[:cap(got)] {
			got[:cap(got)][i] = 99
		}
		if !slices.Equal(rawBits(back), before) {
			t.Fatalf("Distinct's answer shares memory with its argument: %v", back)
		}
	}
	first := Distinct(back)
	keep := rawBits(first)
	Distinct(back)[0] = 99
	back[0] = 99
	if !slices.Equal(rawBits(first), keep) {
		t.Error("Distinct's answer changed behind the call")
	}
}

// nearest32 is the float32 nearest to a float, by exact reckoning.
func nearest32(x float64) float32 {
	if x == 0 || x != x || math.IsInf(x, 0) {
		return float32(x)
	}
	f, _ := new(big.Float).SetFloat64(x).Float32()
	return f
}

func alike32(x, y float32) bool {
	return math.Float32bits(x) == math.Float32bits(y) || x != x && y != y
}

func TestNarrow(t *testing.T) {
	for _, a := range append(samples(), ofSingles()...) {
		got := Narrow(a)
		if !alike32(real(got), nearest32(real(a))) || !alike32(imag(got), nearest32(imag(a))) {
			t.Errorf("Narrow(%v) = %v", a, got)
		}
	}
	for _, c := range []struct {
		x    float64
		want uint32
	}{
		{0, 0}, {minusZero, 0x80000000}, {1, 0x3f800000}, {0.1, 0x3dcccccd}, {-2, 0xc0000000},
		{1 + 0x1p-24, 0x3f800000}, {1 + 0x1p-24 + 0x1p-52, 0x3f800001}, {1 + 0x3p-24, 0x3f800002}, // a half to the even one
		{0x1.fffffep127, 0x7f7fffff}, {0x1.fffffefffffffp127, 0x7f7fffff}, {0x1.ffffffp127, 0x7f800000}, {-most, 0xff800000}, {1e300, 0x7f800000}, {inf, 0x7f800000}, {-inf, 0xff800000},
		{0x1p-149, 1}, {0x1p-150, 0}, {0x1.0000000000001p-150, 1}, {-0x3p-150, 0x80000002}, {-least, 0x80000000}, {0x1p-126, 0x00800000}, {0x1.fffffffp-127, 0x00800000},
	} {
		got := Narrow(complex(c.x, -c.x))
		if math.Float32bits(real(got)) != c.want || math.Float32bits(imag(got)) != c.want^1<<31 {
			t.Errorf("Narrow(%v, %v) = %v, want %x", c.x, -c.x, got, c.want)
		}
	}
	for _, x := range someNaN {
		if got := Narrow(complex(x, 1)); real(got) == real(got) || imag(got) != 1 {
			t.Errorf("Narrow of the NaN %x = %v", math.Float64bits(x), got)
		}
		if got := Narrow(complex(1, x)); imag(got) == imag(got) || real(got) != 1 {
			t.Errorf("Narrow of the NaN %x = %v", math.Float64bits(x), got)
		}
	}
}

// singles are float32s of every kind, of both signs.
func singles() []float32 {
	var list []float32
	r := rand.New(rand.NewSource(5))
	add := func(b uint32) {
		list = append(list, math.Float32frombits(b), math.Float32frombits(b|1<<31))
	}
	for _, b := range []uint32{0, 1, 2, 0x007fffff, 0x00800000, 0x3dcccccd, 0x3f800000, 0x3f800001, 0x7f7fffff, 0x7f800000, 0x7f800001, 0x7fbfffff, 0x7fc00000, 0x7fffffff} {
		add(b)
	}
	for range 40 {
		add(r.Uint32() >> 1)
	}
	return list
}

// ofSingles are numbers whose parts are float32s already, or lie a little beside one, or half way between two.
func ofSingles() []complex128 {
	var out []complex128
	for _, f := range singles() {
		x, next := float64(f), float64(math.Float32frombits(math.Float32bits(f)+1))
		out = append(out, complex(x, (x+next)/2), complex(math.Nextafter(x, inf), math.Nextafter((x+next)/2, -inf)))
	}
	return out
}

func TestWiden(t *testing.T) {
	for _, x := range singles() {
		for _, y := range singles() {
			c := complex(x, y)
			wide := Widen(c)
			if !alikeFloats(real(wide), wide32(x)) || !alikeFloats(imag(wide), wide32(y)) {
				t.Fatalf("Widen(%v) = %v", c, wide)
			}
			if back := Narrow(wide); !alike32(real(back), x) || !alike32(imag(back), y) {
				t.Fatalf("Narrow(Widen(%v)) = %v", c, back)
			}
			if again := Widen(Narrow(wide)); !alike(again, wide) {
				t.Fatalf("Widen(Narrow(%v)) = %v", wide, again)
			}
		}
	}
}

// wide32 is a float32's value, reckoned from its bits.
func wide32(x float32) float64 {
	b := math.Float32bits(x)
	digits, power := float64(b&0x7fffff), int(b>>23&0xff)
	switch {
	case power == 0xff && digits != 0:
		return nan
	case power == 0xff:
		return math.Copysign(inf, float64(int32(b)))
	case power == 0:
		power = 1
	default:
		digits += 0x1p23
	}
	if b>>31 == 1 {
		digits = turned(digits)
	}
	return math.Ldexp(digits, power-150)
}
