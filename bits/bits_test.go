package bits

import (
	"math"
	"math/big"
	"math/rand"
	"slices"
	"testing"

	"timbre/api"
)

const (
	least  = 0x1p-1074 // the least float above 0
	normal = 0x1p-1022 // the least normal float
	most   = math.MaxFloat64
)

var (
	minusZero = math.Copysign(0, -1)
	inf       = math.Inf(1)
)

// someNaN are the bits of NaN of several kinds: either sign, quiet and not.
var someNaN = []uint64{0x7ff8000000000000, 0x7ff0000000000001, 0x7ff7ffffffffffff, 0x7fffffffffffffff, 0xfff0000000000001, 0xfff8000000000000, 0xffffffffffffffff}

// edges are floats at and beside every border that the chapter names, from 0 on.
var edges = []float64{0, least, 2 * least, 3 * least, normal - 2*least, normal - least, normal, normal + least, 2*normal - least, 2 * normal, 0x1p-537, 0.25, 0.5 - 0x1p-54, 0.5, 1 - 0x1p-53, 1, 1 + 0x1p-52, 1.5, 2 - 0x1p-52, 2, 2.5, 3, 5, 7, 0x1p51 + 0.5, 0x1p52 - 0.5, 0x1p52, 0x1p52 + 1, 0x1p53 - 1, 0x1p53, 0x1p53 + 2, 0x1p60, 0x1p63, 0x1p64, 0x1p1023, most - 0x1p971, most, inf}

// samples are the edges of both signs and many floats of any bits, one NaN at the end, the seed always the same.
func samples() []float64 {
	var list []float64
	for _, f := range edges {
		list = append(list, f, -f)
	}
	r := rand.New(rand.NewSource(1))
	for range 150 {
		b := r.Uint64()
		list = append(list, math.Float64frombits(b))
		list = append(list, math.Float64frombits(b&^infBits)) // denormal
		list = append(list, math.Float64frombits(b&^infBits|uint64(bias+r.Intn(120)-60)<<52))
	}
	list = slices.DeleteFunc(list, func(f float64) bool { return f != f })
	return append(list, math.NaN())
}

func isMember(f float64, list []float64) bool {
	return slices.ContainsFunc(list, func(g float64) bool { return math.Float64bits(f) == math.Float64bits(g) })
}

func TestSamplesHoldTheEdges(t *testing.T) {
	for _, f := range []float64{0, minusZero, least, -least, normal, -normal, most, -most, inf, -inf} {
		if !isMember(f, samples()) {
			t.Errorf("%x isn't among the samples", math.Float64bits(f))
		}
	}
}

func TestBits(t *testing.T) {
	for _, c := range []struct {
		f    float64
		want uint64
	}{
		{0, 0}, {minusZero, 0x8000000000000000}, {1, 0x3ff0000000000000}, {-2, 0xc000000000000000},
		{least, 1}, {-least, 0x8000000000000001}, {normal, 0x0010000000000000}, {normal - least, 0x000fffffffffffff},
		{most, 0x7fefffffffffffff}, {inf, 0x7ff0000000000000}, {-inf, 0xfff0000000000000},
	} {
		if got := Bits(c.f); got != c.want {
			t.Errorf("Bits(%v) = %x, want %x", c.f, got, c.want)
		}
		if got := Of(c.want); math.Float64bits(got) != c.want {
			t.Errorf("Of(%x) = %v", c.want, got)
		}
	}
	for _, b := range someNaN {
		if got := Of(b); got == got {
			t.Errorf("Of(%x) = %v, want a NaN", b, got)
		}
		if got := Bits(math.Float64frombits(b)); got != 0x7ff8000000000000 {
			t.Errorf("Bits of the NaN %x = %x", b, got)
		}
	}
}

func TestBitsAndBack(t *testing.T) {
	list := samples()
	for _, f := range list {
		back := Of(Bits(f))
		if math.Float64bits(back) != math.Float64bits(f) && (f == f || back == back) {
			t.Errorf("Of(Bits(%v)) = %v", f, back)
		}
	}
	for _, a := range list {
		for _, b := range list {
			alike := math.Float64bits(a) == math.Float64bits(b) || a != a && b != b
			if (Bits(a) == Bits(b)) != alike || Same(a, b) != alike {
				t.Fatalf("%v, %v: Bits %x, %x, Same %v, want %v", a, b, Bits(a), Bits(b), Same(a, b), alike)
			}
		}
	}
}

func TestSame(t *testing.T) {
	if Same(0, minusZero) || Same(minusZero, 0) || Same(inf, -inf) || Same(1, 1+0x1p-52) || Same(inf, math.NaN()) {
		t.Error("unlike floats are told alike")
	}
	for _, a := range someNaN {
		for _, b := range someNaN {
			if !Same(Of(a), Of(b)) {
				t.Errorf("the NaN %x and %x are told unlike", a, b)
			}
		}
		if Same(Of(a), 0) || Same(1, Of(a)) {
			t.Errorf("the NaN %x is told alike to a number", a)
		}
	}
}

func TestSameList(t *testing.T) {
	nan, other := Of(someNaN[1]), Of(someNaN[6])
	for _, c := range []struct {
		a, b []float64
		want bool
	}{
		{nil, nil, true}, {nil, []float64{}, true}, {[]float64{}, nil, true}, {[]float64{0}, nil, false}, {nil, []float64{0}, false},
		{[]float64{1, nan, -inf}, []float64{1, other, -inf}, true},
		{[]float64{1, 0}, []float64{1, minusZero}, false}, {[]float64{minusZero, 1}, []float64{0, 1}, false},
		{[]float64{1, 2}, []float64{1, 2, 3}, false}, {[]float64{1, 2, 3}, []float64{1, 2}, false},
		{[]float64{1, 2, 3}, []float64{1, 2, 4}, false}, {[]float64{9, 2, 3}, []float64{1, 2, 3}, false}, {[]float64{1, 9, 3}, []float64{1, 2, 3}, false},
	} {
		if got := SameList(c.a, c.b); got != c.want {
			t.Errorf("SameList(%v, %v) = %v", c.a, c.b, got)
		}
	}
}

func rawBits(list []float64) []uint64 {
	var out []uint64
	for _, f := range list[:cap(list)] {
		out = append(out, math.Float64bits(f))
	}
	return out
}

func TestSameListChangesNothing(t *testing.T) {
	a := []float64{1, Of(someNaN[1]), minusZero, 4, 5}[:3]
	b := []float64{1, Of(someNaN[4]), minusZero, 6, 7, 8}[:3]
	wasA, wasB := rawBits(a), rawBits(b)
	if !SameList(a, b) || !SameList(b, a) || !SameList(a, a) {
		t.Error("alike lists are told unlike")
	}
	if !slices.Equal(rawBits(a), wasA) || !slices.Equal(rawBits(b), wasB) {
		t.Error("SameList has changed a list that it was handed")
	}
	a[2] = 0
	if SameList(a, b) {
		t.Error("SameList doesn't see what the caller wrote behind the call")
	}
}

func TestClass(t *testing.T) {
	for _, c := range []struct {
		f    float64
		want int
	}{
		{-inf, 1}, {-most, 2}, {-1, 2}, {-normal, 2}, {least - normal, 3}, {-least, 3}, {minusZero, 4},
		{0, 5}, {least, 6}, {normal - least, 6}, {normal, 7}, {1, 7}, {most, 7}, {inf, 8}, {math.NaN(), 9},
	} {
		if got := Class(c.f); got != c.want {
			t.Errorf("Class(%v) = %d, want %d", c.f, got, c.want)
		}
	}
	for _, b := range someNaN {
		if got := Class(Of(b)); got != api.NaN {
			t.Errorf("Class of the NaN %x = %d", b, got)
		}
	}
}

// wantOrder is the line told by values, not by bits.
func wantOrder(a, b float64) int {
	switch {
	case a != a || b != b:
		return boolInt(a != a) - boolInt(b != b)
	case a < b:
		return -1
	case a > b:
		return 1
	}
	return boolInt(math.Signbit(b)) - boolInt(math.Signbit(a))
}

func boolInt(b bool) int {
	if b {
		return 1
	}
	return 0
}

func TestCompare(t *testing.T) {
	list := samples()
	for _, a := range list {
		for _, b := range list {
			if got := Compare(a, b); got != wantOrder(a, b) {
				t.Fatalf("Compare(%v, %v) = %d", a, b, got)
			}
			if Class(a) < Class(b) && Compare(a, b) != -1 {
				t.Fatalf("Compare(%v, %v) isn't the order of the classes", a, b)
			}
		}
	}
	for _, b := range someNaN {
		f := Of(b)
		if Compare(f, math.NaN()) != 0 || Compare(f, inf) != 1 || Compare(inf, f) != -1 || Compare(f, -inf) != 1 || Compare(-inf, f) != -1 {
			t.Errorf("the NaN %x doesn't stand at the line's end", b)
		}
	}
}

func TestComparePassesOn(t *testing.T) {
	list := samples()[:120]
	list = append(list, math.NaN())
	for _, a := range list {
		for _, b := range list {
			if Compare(a, b) != -Compare(b, a) || (Compare(a, b) == 0) != Same(a, b) {
				t.Fatalf("not just one of ahead, alike, behind holds of %v, %v", a, b)
			}
			for _, c := range list {
				if Compare(a, b) <= 0 && Compare(b, c) <= 0 && Compare(a, c) > 0 {
					t.Fatalf("Compare doesn't pass on: %v, %v, %v", a, b, c)
				}
			}
		}
	}
}

func TestUpAndDown(t *testing.T) {
	for _, c := range [][2]float64{{-inf, -most}, {-1 - 0x1p-52, -1}, {-1, 0x1p-53 - 1}, {-normal, least - normal}, {-2 * least, -least}, {-least, minusZero}, {minusZero, 0}, {0, least}, {least, 2 * least}, {normal - least, normal}, {1, 1 + 0x1p-52}, {2 - 0x1p-52, 2}, {most, inf}} {
		if got := Up(c[0]); !Same(got, c[1]) {
			t.Errorf("Up(%v) = %v, want %v", c[0], got, c[1])
		}
		if got := Down(c[1]); !Same(got, c[0]) {
			t.Errorf("Down(%v) = %v, want %v", c[1], got, c[0])
		}
	}
	if Up(inf) != inf || Down(-inf) != -inf {
		t.Error("an infinity at the line's end isn't its own")
	}
	if Down(inf) != most || Up(-inf) != -most {
		t.Error("an infinity's neighbour isn't the greatest finite float")
	}
	for _, b := range someNaN {
		if up, down := Up(Of(b)), Down(Of(b)); up == up || down == down {
			t.Errorf("the NaN %x: Up %v, Down %v", b, up, down)
		}
	}
}

func TestUpAndDownUndoOneAnother(t *testing.T) {
	for _, f := range samples() {
		if f != inf && !Same(Down(Up(f)), f) {
			t.Errorf("Down(Up(%v)) = %v", f, Down(Up(f)))
		}
		if f != -inf && !Same(Up(Down(f)), f) {
			t.Errorf("Up(Down(%v)) = %v", f, Up(Down(f)))
		}
		if f != 0 && f == f { // math.Nextafter knows but one nought
			if up := math.Nextafter(f, inf); up != Up(f) {
				t.Errorf("Up(%v) = %v, want %v", f, Up(f), up)
			}
			if down := math.Nextafter(f, -inf); down != Down(f) {
				t.Errorf("Down(%v) = %v, want %v", f, Down(f), down)
			}
		}
	}
}

func apart(t *testing.T, a, b float64) uint64 {
	t.Helper()
	n, err := Apart(a, b)
	if err != nil {
		t.Fatalf("Apart(%v, %v): %v", a, b, err)
	}
	return n
}

func TestApart(t *testing.T) {
	for _, c := range []struct {
		a, b float64
		want uint64
	}{
		{minusZero, 0, 1}, {0, 0, 0}, {minusZero, minusZero, 0}, {1, 1, 0}, {inf, inf, 0}, {1, 1 + 0x1p-52, 1}, {-least, least, 3},
		{0, least, 1}, {0, inf, 0x7ff0000000000000}, {minusZero, inf, 0x7ff0000000000001}, {-inf, minusZero, 0x7ff0000000000000},
		{-inf, inf, 0xffe0000000000001}, {1, 2, 1 << 52}, {-2, -1, 1 << 52}, {0, normal, 1 << 52}, {most, inf, 1}, {-1, 1, 2*0x3ff0000000000000 + 1},
	} {
		if got := apart(t, c.a, c.b); got != c.want {
			t.Errorf("Apart(%v, %v) = %x, want %x", c.a, c.b, got, c.want)
		}
		if got := apart(t, c.b, c.a); got != c.want {
			t.Errorf("Apart(%v, %v) = %x, want %x", c.b, c.a, got, c.want)
		}
	}
	for _, b := range someNaN {
		for _, f := range []float64{0, -1, inf, Of(b)} {
			if n, err := Apart(f, Of(b)); n != 0 || err != api.ErrNumber {
				t.Errorf("Apart(%v, the NaN %x) = %d, %v", f, b, n, err)
			}
			if n, err := Apart(Of(b), f); n != 0 || err != api.ErrNumber {
				t.Errorf("Apart(the NaN %x, %v) = %d, %v", b, f, n, err)
			}
		}
	}
}

func TestApartCountsTheSteps(t *testing.T) {
	list := samples()
	list = list[:len(list)-1] // NaN stands there
	slices.SortFunc(list, Compare)
	var few []float64
	for i, f := range list {
		if f != inf && apart(t, f, Up(f)) != 1 {
			t.Errorf("Apart(%v, Up of it) isn't 1", f)
		}
		if i%5 == 0 || f == 0 || i == len(list)-1 {
			few = append(few, f)
		}
	}
	for i, a := range few {
		for j, b := range few[i:] {
			for _, c := range few[i+j:] {
				if apart(t, a, c) != apart(t, a, b)+apart(t, b, c) {
					t.Fatalf("Apart of %v, %v, %v doesn't add up", a, b, c)
				}
			}
		}
	}
	for _, f := range []float64{-4 * least, 3*least - normal, -2 * least, minusZero, normal - 3*least, 2 - 0x1p-50} {
		g := f
		for n := range uint64(40) {
			if apart(t, f, g) != n {
				t.Errorf("%d steps behind %v Apart is %d", n, f, apart(t, f, g))
			}
			g = Up(g)
		}
	}
}

func TestExponent(t *testing.T) {
	for _, c := range []struct {
		f    float64
		want int
	}{
		{1, 0}, {-1, 0}, {1 - 0x1p-53, -1}, {2 - 0x1p-52, 0}, {2, 1}, {-3, 1}, {0.75, -1}, {least, -1074}, {-2 * least, -1073}, {3 * least, -1073},
		{normal - least, -1023}, {normal, -1022}, {0x1.8p-1030, -1030}, {most, 1023}, {-most, 1023}, {0x1p1023, 1023}, {0x1p1023 - 0x1p970, 1022},
	} {
		if got, err := Exponent(c.f); got != c.want || err != nil {
			t.Errorf("Exponent(%v) = %d, %v, want %d", c.f, got, err, c.want)
		}
	}
	for k := -1074; k <= 1023; k++ {
		if got, err := Exponent(math.Ldexp(1, k)); got != k || err != nil {
			t.Errorf("Exponent(2^%d) = %d, %v", k, got, err)
		}
	}
	wrong := []float64{0, minusZero, inf, -inf}
	for _, b := range someNaN {
		wrong = append(wrong, Of(b))
	}
	for _, f := range wrong {
		if got, err := Exponent(f); got != 0 || err != api.ErrNumber {
			t.Errorf("Exponent(%v) = %d, %v, want ErrNumber", f, got, err)
		}
	}
}

func TestScale(t *testing.T) {
	for _, c := range []struct {
		f    float64
		k    int
		want float64
	}{
		{1, 0, 1}, {1, 1, 2}, {-3, -1, -1.5}, {most, 0, most}, {least, 0, least}, {normal - least, 0, normal - least},
		{1, -1074, least}, {1, -1075, 0}, {-1, -1075, minusZero}, {1 + 0x1p-52, -1075, least}, {-1 - 0x1p-52, -1075, -least}, {2 - 0x1p-52, -1075, least}, {2 - 0x1p-52, -1076, 0}, {-1.5, -1076, minusZero},
		{3, -1075, 2 * least}, {5, -1075, 2 * least}, {7, -1075, 4 * least}, {9, -1075, 4 * least}, {-3, -1075, -2 * least}, {3, -1076, least}, {5, -1076, least}, {6, -1076, 2 * least}, {7, -1076, 2 * least},
		{least, -1, 0}, {-least, -1, minusZero}, {3 * least, -1, 2 * least}, {5 * least, -1, 2 * least}, {3 * least, -2, least},
		{2*normal - least, -1, normal}, {2*normal - 2*least, -1, normal - least}, {2 - 0x1p-52, -1023, normal}, {2 - 0x1p-51, -1023, normal - least},
		{least, 1, 2 * least}, {normal - least, 1, 2*normal - 2*least}, {least, 52, normal}, {least, 2097, 0x1p1023}, {least, 2098, inf}, {-least, 2098, -inf},
		{1, 1023, 0x1p1023}, {1, 1024, inf}, {-1, 1024, -inf}, {2 - 0x1p-52, 1023, most}, {-1, 2000, -inf}, {most, 1, inf}, {-most, 1, -inf}, {most / 2, 1, most},
		{most, -2000, 0x1p-976 - 0x1p-1029}, {most, -2097, 2 * least}, {most, -2098, least}, {most, -2099, 0}, {0x1p1023, -2097, least}, {0x1p1023, -2098, 0}, {most - 0x1p971, -2098, least},
		{1, math.MinInt, 0}, {-1, math.MinInt, minusZero}, {most, math.MinInt, 0}, {least, math.MinInt, 0}, {-least, math.MinInt + 1, minusZero},
		{1, math.MaxInt, inf}, {-1, math.MaxInt, -inf}, {least, math.MaxInt, inf}, {-most, math.MaxInt, -inf}, {1, math.MaxInt32, inf}, {1, math.MinInt32, 0}, {1, 1 << 40, inf}, {-1, -1 << 40, minusZero},
	} {
		if got := Scale(c.f, c.k); !Same(got, c.want) {
			t.Errorf("Scale(%v, %d) = %v, want %v", c.f, c.k, got, c.want)
		}
	}
	for _, k := range []int{math.MinInt, -9999, -1, 0, 1, 5, 9999, math.MaxInt} {
		for _, f := range []float64{0, minusZero, inf, -inf, math.NaN(), Of(someNaN[4])} {
			if got := Scale(f, k); !Same(got, f) {
				t.Errorf("Scale(%v, %d) = %v", f, k, got)
			}
		}
	}
}

// wantScale reckons f x 2^k exactly and rounds it once.
func wantScale(f float64, k int) float64 {
	exact := new(big.Float).SetMantExp(new(big.Float).SetFloat64(f), k)
	got, _ := exact.Float64()
	return got
}

func TestScaleRoundsOnce(t *testing.T) {
	r := rand.New(rand.NewSource(2))
	for _, f := range samples() {
		if f != f || math.IsInf(f, 0) || f == 0 {
			continue
		}
		e, err := Exponent(f)
		if err != nil {
			t.Fatal(err)
		}
		for d := -1140; d <= -1010; d++ { // where the answer is, or is nearly, denormal
			if got, want := Scale(f, d-e), wantScale(f, d-e); !Same(got, want) {
				t.Fatalf("Scale(%v, %d) = %v, want %v", f, d-e, got, want)
			}
		}
		for range 40 {
			k := r.Intn(4600) - 2300
			if got, want := Scale(f, k), wantScale(f, k); !Same(got, want) {
				t.Fatalf("Scale(%v, %d) = %v, want %v", f, k, got, want)
			}
		}
	}
}

func TestScaleByTheExponentAndBack(t *testing.T) {
	for _, f := range samples() {
		if f != f || math.IsInf(f, 0) || f == 0 {
			continue
		}
		e, err := Exponent(f)
		if err != nil {
			t.Fatal(err)
		}
		one := Scale(f, -e)
		if size := math.Abs(one); size < 1 || size >= 2 || math.Signbit(one) != math.Signbit(f) {
			t.Errorf("Scale(%v, %d) = %v", f, -e, one)
		}
		if back := Scale(one, e); !Same(back, f) {
			t.Errorf("Scale(%v, %d) = %v, want %v", one, e, back, f)
		}
	}
}

func TestWhole(t *testing.T) {
	for _, c := range []struct {
		f    float64
		want bool
	}{
		{0, true}, {minusZero, true}, {1, true}, {-1, true}, {7, true}, {0.5, false}, {-0.5, false}, {1.5, false}, {1 + 0x1p-52, false}, {1 - 0x1p-53, false}, {2 - 0x1p-52, false},
		{0x1p51 + 0.5, false}, {0x1p51 + 1, true}, {0x1p52 - 0.5, false}, {0x1p52, true}, {0x1p52 + 1, true}, {0x1p53 - 1, true}, {0x1p60, true}, {-0x1p63, true}, {0x1p64, true}, {most, true}, {-most, true},
		{least, false}, {-least, false}, {normal, false}, {normal - least, false}, {inf, false}, {-inf, false}, {math.NaN(), false},
	} {
		if got := Whole(c.f); got != c.want {
			t.Errorf("Whole(%v) = %v", c.f, got)
		}
	}
	for _, b := range someNaN {
		if Whole(Of(b)) {
			t.Errorf("the NaN %x is told whole", b)
		}
	}
	for _, f := range samples() {
		if want := math.Trunc(f) == f && !math.IsInf(f, 0); Whole(f) != want {
			t.Errorf("Whole(%v) = %v", f, Whole(f))
		}
	}
}
