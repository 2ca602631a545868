package fly

import (
	"math"
	"math/rand"
	"slices"
	"testing"

	"timbre/cplx"
)

// whole is a complex number of whole numbers.
type whole struct{ re, im int }

func (a whole) float() complex128 { return complex(float64(a.re), float64(a.im)) }

func floats(x []whole) list {
	var out list
	for _, v := range x {
		out = append(out, v.float())
	}
	return out
}

// wholeSums are the sums of x_j times (-1)^(jk) for two elements, times (-i)^(jk) for four, without floats.
func wholeSums(x []whole) list {
	var out list
	for k := range x {
		var sum whole
		for j, v := range x {
			for range 4 / len(x) * j * k % 4 {
				v = whole{v.im, -v.re}
			}
			sum = whole{sum.re + v.re, sum.im + v.im}
		}
		out = append(out, sum.float())
	}
	return out
}

func checkWhole(t *testing.T, x ...whole) {
	t.Helper()
	if y, want := byArrays(floats(x)), wholeSums(x); !slices.Equal(y, want) {
		t.Fatalf("the butterfly of %v is %v, want %v", x, y, want)
	}
}

// P11.2.
func TestWholeNumbers(t *testing.T) {
	const top = 1 << 50
	sides := []int{0, 1, -1, top, -top, top - 1, 1 - top}
	for _, a := range sides {
		for _, b := range sides {
			for _, c := range sides {
				for _, d := range sides {
					checkWhole(t, whole{a, b}, whole{c, d})
					checkWhole(t, whole{a, c}, whole{b, d}, whole{d, -a}, whole{c, -b})
					checkWhole(t, whole{a, -a}, whole{b, -b}, whole{-c, c}, whole{-d, d})
				}
			}
		}
	}
	r := rand.New(rand.NewSource(4))
	for range 20000 {
		bound := 1 << (1 + r.Intn(50))
		one := func() whole { return whole{r.Intn(2*bound+1) - bound, r.Intn(2*bound+1) - bound} }
		checkWhole(t, one(), one())
		checkWhole(t, one(), one(), one(), one())
	}
}

func each(x list, do func(complex128) complex128) list {
	var out list
	for _, v := range x {
		out = append(out, do(v))
	}
	return out
}

// calmKinds are ways to choose floats of which many butterflies are calm: about 1, near either bound, far apart, and with many noughts.
func calmKinds() []func(r *rand.Rand) float64 {
	at := func(r *rand.Rand, power int) float64 {
		return math.Ldexp(float64(2*r.Intn(2)-1)*(1+r.Float64()), power)
	}
	nought := func(r *rand.Rand, f float64) float64 {
		switch r.Intn(4) {
		case 0:
			return 0
		case 1:
			return minusZero
		}
		return f
	}
	return []func(r *rand.Rand) float64{
		func(r *rand.Rand) float64 { return at(r, 0) },
		func(r *rand.Rand) float64 { return at(r, r.Intn(40)-20) },
		func(r *rand.Rand) float64 { return at(r, r.Intn(1700)-850) },
		func(r *rand.Rand) float64 { return at(r, 890+r.Intn(10)) },
		func(r *rand.Rand) float64 { return at(r, -900+r.Intn(10)) },
		func(r *rand.Rand) float64 { return nought(r, at(r, r.Intn(100)-50)) },
		func(r *rand.Rand) float64 { return nought(r, float64(r.Intn(7)-3)) },
		func(r *rand.Rand) float64 { return nought(r, 0) },
		func(r *rand.Rand) float64 { return nought(r, math.Copysign(0x1p900, at(r, 0))) },
		func(r *rand.Rand) float64 { return nought(r, math.Copysign(0x1p-900, at(r, 0))) },
	}
}

func isCalm(x list) bool {
	for _, v := range x {
		if !calm(real(v)) || !calm(imag(v)) {
			return false
		}
	}
	o := new(oracle)
	o.fly(x)
	return !o.wild
}

// P11.3.
func TestTurnsAndScales(t *testing.T) {
	r := rand.New(rand.NewSource(5))
	calmOnes := map[int]int{}
	check := func(x list) {
		if !isCalm(x) {
			return
		}
		calmOnes[len(x)]++
		y := byArrays(x)
		law := func(name string, do func(complex128) complex128) {
			t.Helper()
			if got, want := byArrays(each(x, do)), each(y, do); !slices.Equal(got, want) {
				t.Fatalf("the butterfly of %s times %v is %v, not %v", name, x, got, want)
			}
		}
		law("minus 1", cplx.Neg)
		law("i", cplx.TimesI)
		for _, k := range []int{-64, 64, 1, -1, r.Intn(129) - 64} {
			power := math.Ldexp(1, k)
			law("a power of two", func(v complex128) complex128 { return complex(real(v)*power, imag(v)*power) })
		}
	}
	for _, kind := range calmKinds() {
		for range 1000 {
			for n := 2; n <= 5; n++ {
				check(byChance(r, n, kind))
			}
		}
	}
	for n := 2; n <= 5; n++ {
		if calmOnes[n] < 1000 {
			t.Errorf("only %d lists of %d are calm", calmOnes[n], n)
		}
	}
}

// The measure of P11.3 itself: what is calm and what isn't.
func TestCalm(t *testing.T) {
	for _, c := range []struct {
		x    list
		want bool
	}{
		{list{0x1p900, 0}, true},
		{list{complex(minusZero, -0x1p-900), 0, 0, 0}, true},
		{list{0x1.0000000000001p900, 0}, false},
		{list{complex(0, 0x1.fffffffffffffp-901), 0}, false},
		{list{complex(inf, 0), 0}, false},
		{list{0, complex(0, nan)}, false},
		{list{0x1p899, 0x1p899}, true},
		{list{0x1p900, 0x1p900}, false},
		{list{0x1p-900, 0x1.8p-900}, false}, // their difference
		{list{0x1p-900, 0, 0, 0, 0}, true},
		{list{0, 0x1p-900, 0}, false}, // its product by a half
		{list{0, 0x1p-899, 0x1p-899}, true},
		{list{0, 0, 0, 0, 0}, true},
	} {
		if isCalm(c.x) != c.want {
			t.Errorf("%v: calm is %v", c.x, !c.want)
		}
	}
}

// equalParts tells whether two complex numbers are equal part by part, NaN being as good as NaN.
func equalParts(a, b complex128) bool {
	equal := func(x, y float64) bool { return x == y || x != x && y != y }
	return equal(real(a), real(b)) && equal(imag(a), imag(b))
}

// turnedRound is x with the elements behind the first in reverse.
func turnedRound(x list) list {
	out := slices.Clone(x)
	slices.Reverse(out[1:])
	return out
}

// P11.4.
func TestTurnedRound(t *testing.T) {
	eachList(func(x list) {
		got, want := byArrays(turnedRound(x)), turnedRound(byArrays(x))
		if !slices.EqualFunc(got, want, equalParts) {
			t.Fatalf("the butterfly of %v turned round is %v, not %v", x, got, want)
		}
	})
}

// P11.5: noughts of any signs.
func TestNoughts(t *testing.T) {
	for n := 2; n <= 5; n++ {
		eachOf(n, []float64{0, minusZero}, func(x list) {
			if y := byArrays(x); !slices.Equal(y, make(list, n)) {
				t.Fatalf("the butterfly of %v is %v", x, y)
			}
		})
	}
}

// P11.5: elements that are all alike.
func TestAllAlike(t *testing.T) {
	check := func(a whole) {
		t.Helper()
		v := a.float()
		if y, want := Two([2]complex128{v, v}), (whole{2 * a.re, 2 * a.im}); y != [2]complex128{want.float()} {
			t.Fatalf("Two of %v alone is %v", v, y)
		}
		if y, want := Four([4]complex128{v, v, v, v}), (whole{4 * a.re, 4 * a.im}); y != [4]complex128{want.float()} {
			t.Fatalf("Four of %v alone is %v", v, y)
		}
	}
	const top = 1 << 40
	sides := []int{0, 1, -1, 3, top, -top, top - 1}
	for _, a := range sides {
		for _, b := range sides {
			check(whole{a, b})
		}
	}
	r := rand.New(rand.NewSource(6))
	for range 10000 {
		bound := 1 << (1 + r.Intn(40))
		check(whole{r.Intn(2*bound+1) - bound, r.Intn(2*bound+1) - bound})
	}
}
