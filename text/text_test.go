package text

import (
	"errors"
	"fmt"
	"math"
	"math/rand"
	"slices"
	"strconv"
	"strings"
	"testing"

	"timbre/api"
)

const (
	least  = 0x1p-1074 // the least float above 0
	normal = 0x1p-1022 // the least normal float
	most   = math.MaxFloat64

	oneText  = "3ff0000000000000"
	zeroText = "0000000000000000"
	nanHex   = "7ff8000000000000"
)

var (
	minusZero = math.Copysign(0, -1)
	inf       = math.Inf(1)
	nan       = math.NaN()
)

// someNaN are the bits of NaN of several kinds: either sign, quiet and not, all but the one that is written.
var someNaN = []uint64{0x7ff8000000000001, 0x7ff0000000000001, 0x7ff7ffffffffffff, 0x7fffffffffffffff, 0xfff0000000000001, 0xfff8000000000000, 0xffffffffffffffff}

func alike(a, b float64) bool {
	return math.Float64bits(a) == math.Float64bits(b) || a != a && b != b
}

func alikeComplex(a, b complex128) bool {
	return alike(real(a), real(b)) && alike(imag(a), imag(b))
}

// samples are floats at every edge, of both signs, and many of any bits, one NaN at the end, the seed always the same.
func samples() []float64 {
	var list []float64
	for _, f := range []float64{0, least, 2 * least, 3 * least, normal - least, normal, normal + least, 2*normal - least, 0.1, 0.5, 1 - 0x1p-53, 1, 1 + 0x1p-52, 1.5, 10, 0x1p50 + 0.25, 0x1p53 - 1, 0x1p53, 1e22, 1e23, 0x1p1023, most - 0x1p971, most, inf} {
		list = append(list, f, -f)
	}
	r := rand.New(rand.NewSource(2))
	for range 300 {
		b := r.Uint64()
		list = append(list, math.Float64frombits(b), math.Float64frombits(b&^infBits))
	}
	list = slices.DeleteFunc(list, func(f float64) bool { return f != f })
	return append(list, nan)
}

func TestFloat(t *testing.T) {
	for _, c := range []struct {
		f    float64
		want string
	}{
		{0, zeroText}, {minusZero, "8000000000000000"}, {1, oneText}, {-2, "c000000000000000"}, {least, "0000000000000001"}, {-least, "8000000000000001"},
		{normal, "0010000000000000"}, {normal - least, "000fffffffffffff"}, {most, "7fefffffffffffff"}, {inf, "7ff0000000000000"}, {-inf, "fff0000000000000"}, {nan, nanHex},
		{math.Float64frombits(0x0123456789abcdef), "0123456789abcdef"}, {math.Float64frombits(0xfedcba9876543210), "fedcba9876543210"},
	} {
		if got := Float(c.f); got != c.want {
			t.Errorf("Float(%v) = %q, want %q", c.f, got, c.want)
		}
		if got, err := ParseFloat(c.want); err != nil || !alike(got, c.f) {
			t.Errorf("ParseFloat(%q) = %v, %v", c.want, got, err)
		}
	}
	for _, b := range someNaN {
		if got := Float(math.Float64frombits(b)); got != nanHex {
			t.Errorf("the NaN %x is written %q", b, got)
		}
		if f, err := ParseFloat(fmt.Sprintf("%016x", b)); f != 0 || err != api.ErrText {
			t.Errorf("the NaN %x is read as %v, %v", b, f, err)
		}
	}
}

func TestFloatAndBack(t *testing.T) {
	for _, f := range samples() {
		s := Float(f)
		if f == f && s != fmt.Sprintf("%016x", math.Float64bits(f)) {
			t.Errorf("Float(%v) = %q", f, s)
		}
		if got, err := ParseFloat(s); err != nil || !alike(got, f) {
			t.Errorf("ParseFloat(%q) = %v, %v, want %v", s, got, err, f)
		}
	}
}

// takesFloat tells whether a text is that of a float, by other means than the package's.
func takesFloat(s string) bool {
	b, err := strconv.ParseUint(s, 16, 64)
	f := math.Float64frombits(b)
	return err == nil && s == fmt.Sprintf("%016x", b) && (f == f || s == nanHex)
}

func TestParseFloatTakesJustItsTexts(t *testing.T) {
	for _, good := range []string{oneText, zeroText, nanHex, "7ff0000000000000", "fff0000000000000", "abcdef0123456789"} {
		for i := range good {
			for c := range 256 {
				s := good[:i] + string([]byte{byte(c)}) + good[i+1:]
				f, err := ParseFloat(s)
				if !takesFloat(s) {
					if f != 0 || err != api.ErrText {
						t.Fatalf("ParseFloat(%q) = %v, %v", s, f, err)
					}
				} else if err != nil || Float(f) != s {
					t.Fatalf("ParseFloat(%q) = %v, %v", s, f, err)
				}
			}
		}
	}
	for _, s := range []string{"", "3", "3ff", oneText[1:], oneText + "0", "0" + oneText, " " + oneText, oneText + "\n", "0x" + oneText, "0x" + oneText[2:], "+" + oneText[1:], "-" + oneText[1:], "3FF0000000000000", "3ff0_00000000000", "é" + oneText[2:], "nan", strings.Repeat("0", 32)} {
		if f, err := ParseFloat(s); f != 0 || err != api.ErrText {
			t.Errorf("ParseFloat(%q) = %v, %v", s, f, err)
		}
	}
}

func TestComplex(t *testing.T) {
	for _, c := range []struct {
		c    complex128
		want string
	}{
		{1i, zeroText + "," + oneText}, {1, oneText + "," + zeroText}, {complex(minusZero, -inf), "8000000000000000,fff0000000000000"},
		{complex(math.Float64frombits(someNaN[4]), math.Float64frombits(someNaN[0])), nanHex + "," + nanHex},
	} {
		if got := Complex(c.c); got != c.want {
			t.Errorf("Complex(%v) = %q, want %q", c.c, got, c.want)
		}
		if got, err := ParseComplex(c.want); err != nil || !alikeComplex(got, c.c) {
			t.Errorf("ParseComplex(%q) = %v, %v", c.want, got, err)
		}
	}
	list := samples()
	for i, f := range list {
		c := complex(f, list[len(list)-1-i])
		if got, err := ParseComplex(Complex(c)); err != nil || !alikeComplex(got, c) {
			t.Errorf("ParseComplex(Complex(%v)) = %v, %v", c, got, err)
		}
	}
}

func TestParseComplexTakesJustItsTexts(t *testing.T) {
	good := oneText + "," + nanHex
	for i := range good {
		for c := range 256 {
			s := good[:i] + string([]byte{byte(c)}) + good[i+1:]
			got, err := ParseComplex(s)
			if len(s) == 33 && s[16] == ',' && takesFloat(s[:16]) && takesFloat(s[17:]) {
				if err != nil || Complex(got) != s {
					t.Fatalf("ParseComplex(%q) = %v, %v", s, got, err)
				}
			} else if got != 0 || err != api.ErrText {
				t.Fatalf("ParseComplex(%q) = %v, %v", s, got, err)
			}
		}
	}
	for _, s := range []string{"", ",", oneText, oneText + ",", "," + oneText, oneText + oneText, oneText + ",," + oneText, oneText + ", " + oneText, good + ",", good + "," + oneText, good + ";", oneText + ";" + oneText, "7ff8000000000001," + oneText, oneText + ",fff8000000000000", "1,0"} {
		if got, err := ParseComplex(s); got != 0 || err != api.ErrText {
			t.Errorf("ParseComplex(%q) = %v, %v", s, got, err)
		}
	}
}

// listOf is a list of n elements, out of the samples.
func listOf(n int) []complex128 {
	from := samples()
	list := make([]complex128, n)
	for i := range list {
		list[i] = complex(from[i%len(from)], from[7*i%len(from)])
	}
	return list
}

func TestList(t *testing.T) {
	for list, want := range map[[2]complex128]string{{1, 1i}: oneText + "," + zeroText + ";" + zeroText + "," + oneText, {0, 0}: zeroText + "," + zeroText + ";" + zeroText + "," + zeroText} {
		if got := List(list[:]); got != want {
			t.Errorf("List(%v) = %q, want %q", list, got, want)
		}
	}
	if List(nil) != "" || List([]complex128{}) != "" || List([]complex128{1i}) != Complex(1i) {
		t.Error("the text of no element, or of one, isn't what it should be")
	}
	for _, n := range []int{0, 1, 2, 3, 50, 1927} { // of 1927 elements the text has 65517 bytes
		list := listOf(n)
		s := List(list)
		if len(s) != max(0, 34*n-1) {
			t.Errorf("the text of %d elements has %d bytes", n, len(s))
		}
		got, at, err := ParseList(s)
		if !slices.EqualFunc(got, list, alikeComplex) || at != 0 || err != nil {
			t.Errorf("ParseList of %d elements: %d of them, at %d, %v", n, len(got), at, err)
		}
		if List(got) != s {
			t.Errorf("%d elements aren't written as they were read", n)
		}
	}
}

func TestListAboveTheLimitIsWritten(t *testing.T) {
	s := List(listOf(1928))
	if len(s) != 34*1928-1 || !strings.HasPrefix(s, List(listOf(1927))+";") {
		t.Errorf("the text of 1928 elements has %d bytes", len(s))
	}
	if got, at, err := ParseList(s); len(got) != 0 || at != 0 || err != api.ErrLimit {
		t.Errorf("ParseList of %d bytes: %d elements, at %d, %v", len(s), len(got), at, err)
	}
}

func TestParseListTellsTheFirstFault(t *testing.T) {
	one := Complex(1)
	for _, c := range []struct {
		s  string
		at int
	}{
		{";", 0}, {"x", 0}, {" ", 0}, {",", 0}, {";" + one, 0}, {one + ";", 1}, {one + ";x;", 1}, {one + ";x;y", 1}, {one + ";;" + one, 1}, {one + ";" + one + ";", 2}, {one + "," + one, 0},
		{one + "; " + one, 1}, {one + "\n;" + one, 0}, {oneText, 0}, {oneText + ";" + oneText, 0}, {one + ";7ff8000000000001," + oneText, 1}, {strings.ToUpper(one), 0},
		{strings.Repeat(one+";", 1900) + "x", 1900}, {strings.Repeat(";", 65536), 0}, {strings.Repeat(one+";", 1927) + strings.Repeat("x", 18), 1927}, // the last two of 65536 bytes
	} {
		if list, at, err := ParseList(c.s); len(list) != 0 || at != c.at || err != api.ErrText {
			t.Errorf("ParseList(%.80q) = %d elements, at %d, %v, want a fault at %d", c.s, len(list), at, err, c.at)
		}
	}
	for _, s := range []string{strings.Repeat("x", 65537), strings.Repeat(one+";", 1927) + strings.Repeat("x", 19), strings.Repeat("x", 1<<20)} {
		if list, at, err := ParseList(s); len(list) != 0 || at != 0 || err != api.ErrLimit {
			t.Errorf("ParseList of %d bytes = %d elements, at %d, %v", len(s), len(list), at, err)
		}
	}
	if list, at, err := ParseList(""); len(list) != 0 || at != 0 || err != nil {
		t.Errorf("ParseList of the empty text = %v, at %d, %v", list, at, err)
	}
}

func TestListsAreNewMemory(t *testing.T) {
	list := listOf(20)[:3]
	whole := slices.Clone(list[:20])
	s := List(list)
	if !slices.EqualFunc(list[:20], whole, alikeComplex) {
		t.Error("List has changed what it was handed")
	}
	first, _, err := ParseList(s)
	second, _, err2 := ParseList(s)
	if errors.Join(err, err2) != nil {
		t.Fatal(err, err2)
	}
	full := first[:cap(first)]
	for i := range full {
		full[i] = 7
	}
	if !slices.EqualFunc(second, list, alikeComplex) {
		t.Error("two answers of ParseList share memory")
	}
	list[0] = 9
	if List(second) != s {
		t.Error("an answer hangs on the list that was written")
	}
}
