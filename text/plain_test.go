package text

import (
	"math"
	"math/big"
	"math/rand"
	"strconv"
	"strings"
	"testing"
)

func power(base int64, k int) *big.Rat {
	whole := new(big.Int).Exp(big.NewInt(base), big.NewInt(int64(max(k, -k))), nil)
	if k < 0 {
		return new(big.Rat).SetFrac(big.NewInt(1), whole)
	}
	return new(big.Rat).SetInt(whole)
}

// exactly is the value of a finite float.
func exactly(f float64) *big.Rat { return new(big.Rat).SetFloat64(f) }

// readsAs tells whether a number is read as a, by math/big.
func readsAs(number *big.Rat, a float64) bool {
	f, _ := number.Float64()
	return f == a
}

// floorOf is a number above 0, rounded down.
func floorOf(number *big.Rat) *big.Int { return new(big.Int).Quo(number.Num(), number.Denom()) }

// decade is the greatest x with 10^x at most a, which is above 0.
func decade(a *big.Rat) int {
	x := (a.Num().BitLen() - a.Denom().BitLen()) * 3 / 10
	for power(10, x).Cmp(a) > 0 {
		x--
	}
	for power(10, x+1).Cmp(a) <= 0 {
		x++
	}
	return x
}

// wantDigits are D and x of a (above 0, finite) for k digits: the two numbers of k digits about a are tried; nil, if neither is read as a.
func wantDigits(a float64, k int) (*big.Int, int) {
	value := exactly(a)
	x := decade(value) - k + 1
	unit := power(10, x)
	low := floorOf(new(big.Rat).Quo(value, unit))
	high := new(big.Int).Add(low, big.NewInt(1))
	lowNumber := new(big.Rat).Mul(new(big.Rat).SetInt(low), unit)
	highNumber := new(big.Rat).Mul(new(big.Rat).SetInt(high), unit)
	lowReads, highReads := readsAs(lowNumber, a), readsAs(highNumber, a)
	switch {
	case !lowReads && !highReads:
		return nil, 0
	case lowReads && highReads:
		below, above := new(big.Rat).Sub(value, lowNumber), new(big.Rat).Sub(highNumber, value)
		c := below.Cmp(above)
		if c > 0 || c == 0 && low.Bit(0) == 1 {
			return high, x
		}
		return low, x
	case lowReads:
		return low, x
	}
	return high, x
}

// wantPlain is the plain text of a finite float other than 0, as the chapter says it.
func wantPlain(f float64) string {
	if f < 0 {
		return "-" + wantPlain(-f)
	}
	for k := 1; ; k++ {
		d, x := wantDigits(f, k)
		if d == nil {
			continue
		}
		digits := d.String()
		exponent := strconv.Itoa(x + len(digits) - 1)
		digits = digits[:min(k, len(digits))] // 10^k is a number of k digits too: 10^(k-1) x 10
		if k == 1 {
			return digits + "e" + exponent
		}
		return digits[:1] + "." + digits[1:] + "e" + exponent
	}
}

func TestPlain(t *testing.T) {
	for _, c := range []struct {
		f    float64
		want string
	}{
		{1, "1e0"}, {-1.5, "-1.5e0"}, {0.1, "1e-1"}, {123456789, "1.23456789e8"}, {least, "5e-324"}, {-least, "-5e-324"}, {most, "1.7976931348623157e308"}, {-most, "-1.7976931348623157e308"},
		{0x1p50 + 0.25, "1.1258999068426242e15"}, {0x1p50 + 0.75, "1.1258999068426248e15"}, {-0x1p50 - 0.25, "-1.1258999068426242e15"},
		{nan, "nan"}, {-nan, "nan"}, {inf, "inf"}, {-inf, "-inf"}, {0, "0e0"}, {minusZero, "-0e0"},
		{2 * least, "1e-323"}, {3 * least, "1.5e-323"}, {normal, "2.2250738585072014e-308"}, {normal - least, "2.225073858507201e-308"},
		{7e22, "7e22"}, {math.Nextafter(7e22, 0), "6.9999999999999996e22"}, {math.Nextafter(1e23, inf), "1.0000000000000001e23"}, // 7e22 and 1e23 lie halfway between two floats
		{10, "1e1"}, {100, "1e2"}, {1e22, "1e22"}, {1e23, "1e23"}, {9.5, "9.5e0"}, {1e-5, "1e-5"}, {1e-10, "1e-10"}, {1e100, "1e100"}, {1e300, "1e300"}, {120, "1.2e2"}, {102, "1.02e2"},
		{0x1p-44, "5.684341886080802e-14"}, // the nearest of 16 digits, ..801, is read as the float below
		{0x1p53, "9.007199254740992e15"}, {0.3, "3e-1"}, {0.30000000000000004, "3.0000000000000004e-1"}, {math.Pi, "3.141592653589793e0"},
	} {
		if got := Plain(c.f); got != c.want {
			t.Errorf("Plain(%x) = %q, want %q", math.Float64bits(c.f), got, c.want)
		}
	}
	for _, b := range someNaN {
		if got := Plain(math.Float64frombits(b)); got != "nan" {
			t.Errorf("Plain of the NaN %x = %q", b, got)
		}
	}
}

// libraryReads is what Go's library reads a text as.
func libraryReads(s string) float64 {
	f, err := strconv.ParseFloat(s, 64)
	if err != nil {
		panic(err)
	}
	return f
}

// hardFloats are floats at which the digits are hard to find: finite, above 0.
func hardFloats() []float64 {
	var list []float64
	about := func(f float64) {
		list = append(list, f, math.Nextafter(f, 0), math.Nextafter(f, inf))
	}
	for e := -1074; e <= 1023; e++ { // the neighbours lie at unlike distances
		about(math.Ldexp(1, e))
	}
	for x := -323; x <= 308; x++ { // a decade's end
		f := libraryReads("1e" + strconv.Itoa(x))
		about(f)
		about(9 * f / 10)
	}
	for x := 14; x <= 23; x++ { // numbers of few digits halfway between two floats (d x 5^x has 54 bits): both are hard, whichever it is read as
		for d := 1; d < 10000; d += 2 {
			if n := float64(d) * math.Pow(5, float64(x)); n >= 0x1p53 && n < 0x1p54 {
				about(libraryReads(strconv.Itoa(d) + "e" + strconv.Itoa(x)))
			}
		}
	}
	for m := range 300 { // few bits
		list = append(list, float64(m+1)*least, float64(m+1))
	}
	r := rand.New(rand.NewSource(3))
	for e := 50; e < 64; e++ { // two numbers of as many digits that are as near
		for range 40 {
			f := math.Ldexp(1, e) + float64(r.Intn(1000)*2+1)*math.Ldexp(1, e-52)
			list = append(list, f, math.Ldexp(f, -3))
		}
	}
	for range 1500 {
		list = append(list, math.Float64frombits(r.Uint64()&^signBit), math.Float64frombits(r.Uint64()&(leadBit-1)>>uint(r.Intn(52))), float64(r.Intn(1000000))/1000)
	}
	var finite []float64
	for _, f := range list {
		if f > 0 && f <= most {
			finite = append(finite, f)
		}
	}
	return finite
}

func TestPlainIsShortestAndNearest(t *testing.T) {
	for _, f := range hardFloats() {
		if got, want := Plain(f), wantPlain(f); got != want {
			t.Errorf("Plain(%x) = %q, want %q", math.Float64bits(f), got, want)
		}
		if got, want := Plain(-f), "-"+Plain(f); got != want {
			t.Errorf("Plain(%x) = %q, want %q", math.Float64bits(-f), got, want)
		}
	}
}

// TestView holds the border numbers that the digits are chosen by against math/big.
func TestView(t *testing.T) {
	for i, f := range hardFloats() {
		if i%5 != 0 && f != normal {
			continue
		}
		v := viewOf(math.Float64bits(f))
		unit := power(10, v.power)
		number := func(n uint64) *big.Rat {
			return new(big.Rat).Mul(new(big.Rat).SetInt(new(big.Int).SetUint64(n)), unit)
		}
		if v.whole < 1e17 || v.whole >= 1e18 || number(v.whole).Cmp(exactly(f)) > 0 || number(v.whole+1).Cmp(exactly(f)) <= 0 || v.exact != (number(v.whole).Cmp(exactly(f)) == 0) {
			t.Errorf("%x is viewed as %d x 10^%d, exact: %v", math.Float64bits(f), v.whole, v.power, v.exact)
		}
		if !readsAs(number(v.least), f) || readsAs(number(v.least-1), f) || !readsAs(number(v.most), f) || readsAs(number(v.most+1), f) {
			t.Errorf("of %x, in units of 10^%d, those from %d to %d are told", math.Float64bits(f), v.power, v.least, v.most)
		}
	}
}

func TestTiesAreAmongTheHardOnes(t *testing.T) {
	ties := 0
	for _, f := range hardFloats() {
		digits, _, _ := strings.Cut(Plain(f), "e")
		k := len(digits) - 1
		if k < 2 {
			continue
		}
		value, unit := exactly(f), power(10, decade(exactly(f))-k+1)
		twice := new(big.Rat).Quo(value, unit)
		twice.Add(twice, twice)
		if twice.IsInt() && twice.Num().Bit(0) == 1 {
			ties++
		}
	}
	if ties < 20 {
		t.Errorf("%d floats lie halfway", ties)
	}
}

func TestPlainAndBack(t *testing.T) {
	for _, f := range append(hardFloats(), samples()...) {
		for _, g := range []float64{f, -f} {
			if got, err := ParsePlain(Plain(g)); err != nil || !alike(got, g) {
				t.Errorf("ParsePlain(%q) = %v, %v, want %x", Plain(g), got, err, math.Float64bits(g))
			}
		}
	}
}

func TestNoFewerDigitsAreReadAsIt(t *testing.T) {
	for _, f := range hardFloats() {
		digits, _, _ := strings.Cut(strings.Replace(Plain(f), ".", "", 1), "e")
		if len(digits) == 1 {
			continue
		}
		if d, x := wantDigits(f, len(digits)-1); d != nil {
			t.Errorf("%x is written in %d digits, and read of %v x 10^%d too", math.Float64bits(f), len(digits), d, x)
		}
	}
}

func TestUnlikeFloatsHaveUnlikePlainTexts(t *testing.T) {
	whose := map[string]uint64{}
	tell := func(f float64) {
		s, b := Plain(f), math.Float64bits(f)
		if f != f {
			b = nanBits
		}
		if was, ok := whose[s]; ok && was != b {
			t.Errorf("%q is the text of %x and of %x", s, was, b)
		}
		whose[s] = b
	}
	for _, f := range append(hardFloats(), samples()...) {
		tell(f)
		tell(-f)
	}
	for _, b := range someNaN {
		tell(math.Float64frombits(b))
	}
}
