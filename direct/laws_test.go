package direct

import (
	"math"
	"math/rand"
	"slices"
	"testing"

	"timbre/cplx"
)

// whole is a complex number of whole numbers.
type whole struct{ re, im int }

func (a whole) float() complex128 { return complex(float64(a.re), float64(a.im)) }

// wholeSums are the sums of x_j times (-i)^(4jk/n), without floats.
func wholeSums(x []whole) []complex128 {
	n := len(x)
	var out []complex128
	for k := range n {
		var sum whole
		for j, v := range x {
			for range 4 * j * k / n % 4 {
				v = whole{v.im, -v.re}
			}
			sum = whole{sum.re + v.re, sum.im + v.im}
		}
		out = append(out, sum.float())
	}
	return out
}

func floats(x []whole) []complex128 {
	var out []complex128
	for _, v := range x {
		out = append(out, v.float())
	}
	return out
}

func checkWhole(t *testing.T, x []whole) {
	t.Helper()
	y := mustForward(t, floats(x))
	if want := wholeSums(x); !slices.Equal(y, want) {
		t.Fatalf("Forward of %v is %v, want %v", x, y, want)
	}
	if back := mustInverse(t, y); !slices.Equal(back, floats(x)) {
		t.Fatalf("Inverse of Forward of %v is %v", x, back)
	}
}

// P10.2.
func TestWholeNumbers(t *testing.T) {
	const top = 1 << 40
	sides := []int{0, 1, -1, top, -top, top - 1}
	for _, a := range sides {
		for _, b := range sides {
			checkWhole(t, []whole{{a, b}})
			for _, c := range sides {
				for _, d := range sides {
					checkWhole(t, []whole{{a, b}, {c, d}})
					checkWhole(t, []whole{{a, c}, {b, d}, {d, -a}, {c, -b}})
					checkWhole(t, []whole{{a, -a}, {b, -b}, {-c, c}, {-d, d}})
				}
			}
		}
	}
	r := rand.New(rand.NewSource(7))
	for range 3000 {
		bound := 1 << (1 + r.Intn(40))
		part := func() int { return r.Intn(2*bound+1) - bound }
		for _, n := range []int{1, 2, 4} {
			x := make([]whole, n)
			for j := range x {
				x[j] = whole{part(), part()}
			}
			checkWhole(t, x)
		}
	}
}

// P10.3.
func TestPartsAlone(t *testing.T) {
	r := rand.New(rand.NewSource(8))
	check := func(x []complex128, k int, y complex128) {
		t.Helper()
		n := len(x)
		for _, where := range [][3]int{{0, 1, 0}, {0, 1, 7}, {3, 1, 0}, {0, 2, 1}, {r.Intn(50), 1 + r.Intn(50), r.Intn(50)}} {
			at, jump := where[0], where[1]
			got, err := At(spread(x, at, jump, where[2]), at, jump, n, k)
			if err != nil || !alikeParts(got, y) {
				t.Fatalf("the sum %d of %v from %d, jump %d, is %v, %v, that of Forward %v", k, x, at, jump, got, err, y)
			}
		}
	}
	for _, kind := range kinds() {
		for _, n := range []int{1, 2, 3, 4, 5, 8, 12, 17, 30, 64} {
			x := byChance(r, n, kind)
			for k, y := range mustForward(t, x) {
				check(x, k, y)
			}
		}
	}
	x := byChance(r, maxSide, kinds()[1])
	y := mustForward(t, x)
	for range 20 {
		k := r.Intn(maxSide)
		check(x, k, y[k])
	}
}

func each(x []complex128, do func(complex128) complex128) []complex128 {
	var out []complex128
	for _, v := range x {
		out = append(out, do(v))
	}
	return out
}

// calmKinds are ways to choose floats of which many transforms are calm: about 1, near either bound, far apart, and with many noughts.
func calmKinds() []func(r *rand.Rand) float64 {
	at := func(r *rand.Rand, power int) float64 {
		return math.Ldexp(float64(2*r.Intn(2)-1)*(1+r.Float64()), power)
	}
	nought := func(r *rand.Rand, f float64) float64 {
		switch r.Intn(4) {
		case 0:
			return 0
		case 1:
			return minusZero
		}
		return f
	}
	return []func(r *rand.Rand) float64{
		func(r *rand.Rand) float64 { return at(r, 0) },
		func(r *rand.Rand) float64 { return at(r, r.Intn(40)-20) },
		func(r *rand.Rand) float64 { return at(r, r.Intn(1700)-850) },
		func(r *rand.Rand) float64 { return at(r, 880+r.Intn(12)) },
		func(r *rand.Rand) float64 { return at(r, -880+r.Intn(12)) },
		func(r *rand.Rand) float64 { return nought(r, at(r, r.Intn(100)-50)) },
		func(r *rand.Rand) float64 { return nought(r, float64(r.Intn(7)-3)) },
		func(r *rand.Rand) float64 { return nought(r, 0) },
		func(r *rand.Rand) float64 { return math.Copysign(0x1p900, at(r, 0)) },
		func(r *rand.Rand) float64 { return math.Copysign(0x1p-900, at(r, 0)) },
	}
}

func isCalm(x []complex128) bool {
	for _, v := range x {
		if !calm(real(v)) || !calm(imag(v)) {
			return false
		}
	}
	o := new(oracle)
	o.forward(x)
	return !o.wild
}

// P10.4.
func TestTurnedAndScaled(t *testing.T) {
	r := rand.New(rand.NewSource(9))
	calmOnes := 0
	check := func(x []complex128) {
		if !isCalm(x) {
			return
		}
		calmOnes++
		y := mustForward(t, x)
		law := func(name string, do func(complex128) complex128) {
			t.Helper()
			if got, want := mustForward(t, each(x, do)), each(y, do); !slices.Equal(got, want) {
				t.Fatalf("Forward of %s times %v is %v, not %v", name, x, got, want)
			}
		}
		law("minus 1", cplx.Neg)
		law("i", cplx.TimesI)
		for _, k := range []int{-64, 64, 1, -1, r.Intn(129) - 64} {
			power := math.Ldexp(1, k)
			law("a power of two", func(v complex128) complex128 { return complex(real(v)*power, imag(v)*power) })
		}
	}
	for _, kind := range calmKinds() {
		for n := 1; n <= 40; n++ {
			for range 6 {
				check(byChance(r, n, kind))
			}
		}
		check(byChance(r, 360, kind))
		check(byChance(r, 1, func(r *rand.Rand) float64 { return 0x1p900 }))
		check(byChance(r, 4, func(r *rand.Rand) float64 { return 0x1p-900 }))
	}
	check(byChance(r, maxSide, calmKinds()[1]))
	if calmOnes < 1000 {
		t.Errorf("only %d lists are calm", calmOnes)
	}
}

// The measure of P10.4 itself: what is calm and what isn't.
func TestCalm(t *testing.T) {
	type list = []complex128
	for _, c := range []struct {
		x    list
		want bool
	}{
		{list{0x1p900}, true},
		{list{complex(minusZero, -0x1p-900)}, true},
		{list{0x1.0000000000001p900}, false},
		{list{complex(0, 0x1.fffffffffffffp-901)}, false},
		{list{complex(inf, 0)}, false},
		{list{complex(0, nan)}, false},
		{list{0x1p899, 0x1p899}, true},
		{list{0x1p900, 0x1p900}, false},
		{list{0x1p-900, 0, 0, 0}, true},
		{list{0, 0x1p-900, 0}, false}, // its product by a part below 1
		{list{0, 0, 0}, true},
	} {
		if isCalm(c.x) != c.want {
			t.Errorf("%v: calm is %v", c.x, !c.want)
		}
	}
}
