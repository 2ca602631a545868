package text

import (
	"math"
	"math/big"
	"math/rand"
	"regexp"
	"slices"
	"strconv"
	"strings"
	"testing"

	"timbre/api"
)

func TestParsePlain(t *testing.T) {
	for _, c := range []struct {
		s    string
		want float64
	}{
		{"1e0", 1}, {"1", 1}, {"01.0", 1}, {"10e-1", 1}, {"0.1e1", 1}, {"1e-0", 1}, {"1e00", 1}, {"000001", 1}, {"-1", -1}, {"-01.50", -1.5}, {"12.5", 12.5}, {"125e-1", 12.5}, {"0.0125e3", 12.5}, {"9", 9},
		{"0", 0}, {"-0", minusZero}, {"-0.0", minusZero}, {"0.0e-5", 0}, {"-000.000e99", minusZero}, {"0e99999999999999999999", 0}, {"-0e-99999999999999999999", minusZero},
		{"1e-400", 0}, {"-1e-999", minusZero}, {"1e-99999999999999999999", 0}, {"2.4703282292062327e-324", 0}, {"-2.4703282292062327e-324", minusZero}, {"2.4703282292062328e-324", least}, {"-2.4703282292062328e-324", -least}, {"5e-324", least}, {"3e-324", least}, {"1e-324", 0}, {"2e-324", 0}, {"9e-325", 0},
		{"7.4e-324", least}, {"7.5e-324", 2 * least}, {"2.2250738585072011e-308", normal - least}, {"2.2250738585072014e-308", normal}, {"2.2250738585072012e-308", normal},
		{"9007199254740991", 0x1p53 - 1}, {"9007199254740992", 0x1p53}, {"9007199254740993", 0x1p53}, {"9007199254740993.00000000000000000001", 0x1p53 + 2}, {"9007199254740995", 0x1p53 + 4}, {"9007199254740994.99999", 0x1p53 + 2},
		{"1.7976931348623157e308", most}, {"1.7976931348623158e308", most}, {"-1.7976931348623158e308", -most}, {"179769313486231580000e288", most}, {"0.1", 0.1}, {"0.3", 0.3}, {"1e22", 1e22}, {"1e23", 1e23}, {"100000000000000000000000", 1e23},
		{"nan", nan}, {"inf", inf}, {"-inf", -inf},
	} {
		if got, err := ParsePlain(c.s); err != nil || !alike(got, c.want) {
			t.Errorf("ParsePlain(%q) = %v, %v, want %v", c.s, got, err, c.want)
		}
	}
}

func TestParsePlainBeyondAllFloats(t *testing.T) {
	border := new(big.Int).Sub(new(big.Int).Lsh(big.NewInt(1), 1024), new(big.Int).Lsh(big.NewInt(1), 970)) // halfway from the greatest float to 2^1024
	at, below := border.String(), new(big.Int).Sub(border, big.NewInt(1)).String()
	for _, s := range []string{at, at + ".0", at + ".00001", at + "0e-1", "1.7976931348623159e308", "1e309", "2e308", "1e310", "1e999", "1e9999", "1e99999999999999999999", "1e18446744073709551616", "1e18446744073709551617", strings.Repeat("1", 399), "0." + strings.Repeat("0", 80) + "1e390"} {
		for _, sign := range []string{"", "-"} {
			if f, err := ParsePlain(sign + s); f != 0 || err != api.ErrRange {
				t.Errorf("ParsePlain(%q) = %v, %v", sign+s, f, err)
			}
		}
	}
	for _, s := range []string{below, below + ".99999999999999999999", below + "9e-1"} {
		for sign, want := range map[string]float64{"": most, "-": -most} {
			if f, err := ParsePlain(sign + s); f != want || err != nil {
				t.Errorf("ParsePlain(%q) = %v, %v", sign+s, f, err)
			}
		}
	}
}

func TestLongDecimalTexts(t *testing.T) {
	noughts := func(n int) string { return strings.Repeat("0", n) }
	for _, c := range []struct {
		s    string
		want float64
		err  error
	}{
		{noughts(399) + "1", 1, nil}, {noughts(400) + "1", 0, api.ErrText}, {"-" + noughts(398) + "1", -1, nil}, {"-" + noughts(399) + "1", 0, api.ErrText},
		{"1." + noughts(398), 1, nil}, {"1." + noughts(399), 0, api.ErrText}, {"1e" + noughts(397) + "2", 100, nil}, {"1e" + noughts(398) + "2", 0, api.ErrText}, {"1e-" + noughts(396) + "2", 0.01, nil},
		{"1" + noughts(394) + "e-394", 1, nil}, {"0." + noughts(392) + "1e393", 1, nil}, {"0." + noughts(392) + "1e702", 0, api.ErrRange}, {"0." + noughts(392) + "1e701", 1e308, nil}, {"1" + noughts(394) + "e-718", 0, nil}, {"5" + noughts(394) + "e-718", least, nil},
		{strings.Repeat("1", 400), 0, api.ErrRange}, {strings.Repeat("1", 401), 0, api.ErrText}, {"1e" + strings.Repeat("9", 398), 0, api.ErrRange}, {"1e-" + strings.Repeat("9", 397), 0, nil}, {"0e" + strings.Repeat("9", 398), 0, nil},
		{strings.Repeat("9", 395) + "e-99", 1e296, nil}, {strings.Repeat("9", 395) + "e-395", 1, nil},
	} {
		if f, err := ParsePlain(c.s); err != c.err || !alike(f, c.want) {
			t.Errorf("ParsePlain(%.20q .., of %d bytes) = %v, %v, want %v, %v", c.s, len(c.s), f, err, c.want, c.err)
		}
	}
	for _, s := range []string{strings.Repeat(" ", 401), strings.Repeat("x", 1<<20)} {
		if f, err := ParsePlain(s); f != 0 || err != api.ErrText {
			t.Errorf("ParsePlain of %d bytes = %v, %v", len(s), f, err)
		}
	}
}

// form is that of a decimal text, its length aside.
var form = regexp.MustCompile(`^(nan|-?inf|-?[0-9]+(\.[0-9]+)?(e-?[0-9]+)?)$`)

// checkParsePlain holds ParsePlain against the library's reader.
func checkParsePlain(t *testing.T, s string) {
	t.Helper()
	got, err := ParsePlain(s)
	if len(s) > 400 || !form.MatchString(s) {
		if got != 0 || err != api.ErrText {
			t.Fatalf("ParsePlain(%q) = %v, %v, want ErrText", s, got, err)
		}
		return
	}
	want, wantErr := strconv.ParseFloat(s, 64)
	if wantErr != nil {
		if got != 0 || err != api.ErrRange {
			t.Fatalf("ParsePlain(%q) = %v, %v, want ErrRange", s, got, err)
		}
		return
	}
	if err != nil || !alike(got, want) {
		t.Fatalf("ParsePlain(%q) = %v, %v, want %v", s, got, err, want)
	}
}

func TestEveryShortText(t *testing.T) {
	texts := []string{""}
	for from := 0; len(texts[from]) < 6; from++ {
		for _, c := range []byte("07-.e+") {
			texts = append(texts, texts[from]+string(c))
		}
	}
	for _, s := range texts {
		checkParsePlain(t, s)
	}
	for _, s := range []string{"nan", "inf", "-inf"} {
		for i := range s {
			for c := range 256 {
				checkParsePlain(t, s[:i]+string([]byte{byte(c)})+s[i+1:])
				checkParsePlain(t, s[:i]+string([]byte{byte(c)})+s[i:])
			}
			checkParsePlain(t, s[:i])
			checkParsePlain(t, s+s[:i+1])
		}
	}
	good := "-12.5e-3"
	for i := range good {
		for c := range 256 {
			checkParsePlain(t, good[:i]+string([]byte{byte(c)})+good[i+1:])
			checkParsePlain(t, good[:i]+string([]byte{byte(c)})+good[i:])
		}
	}
	for _, s := range []string{"1.", ".5", "+1", "1e", "1e+5", "1E5", "Inf", "NaN", "+inf", "-nan", "infinity", "0x1", "0x1p4", "1_0", " 1", "1 ", "1\n", "1\x00", "--1", "1e--1", "1e1.5", "1.2.3", "1ee2", "1e2e3", "-", "-.", "-e", "e5", "-.5", "1.e5", "١", "½", "1,5"} {
		if f, err := ParsePlain(s); f != 0 || err != api.ErrText {
			t.Errorf("ParsePlain(%q) = %v, %v", s, f, err)
		}
	}
}

func someDigits(r *rand.Rand, n int) string {
	out := make([]byte, n)
	for i := range out {
		out[i] = '0' + byte(r.Intn(10))
	}
	return string(out)
}

// someText is a decimal text of any shape.
func someText(r *rand.Rand) string {
	s := someDigits(r, 1+r.Intn(20))
	if r.Intn(2) == 0 {
		s += "." + someDigits(r, 1+r.Intn(1<<uint(r.Intn(8))))
	}
	if r.Intn(3) > 0 {
		s += "e" + strconv.Itoa(r.Intn(700)-350)
	}
	if r.Intn(3) == 0 {
		s = "-" + s
	}
	return s
}

func TestAnyDecimalText(t *testing.T) {
	r := rand.New(rand.NewSource(4))
	for range 20000 {
		checkParsePlain(t, someText(r))
	}
}

// digitsOf are the digits of a number above 0, all of them or the first n, and the power of ten of the last; and whether these are all.
func digitsOf(number *big.Rat, n int) (*big.Int, int, bool) {
	x := decade(number) - n + 1
	scaled := new(big.Rat).Quo(number, power(10, x))
	return floorOf(scaled), x, scaled.IsInt()
}

// TestHalfway reads numbers halfway between two floats, and just below and above them: in as many digits as a decimal text can have.
func TestHalfway(t *testing.T) {
	const digits = 390
	list := hardFloats()
	r := rand.New(rand.NewSource(5))
	r.Shuffle(len(list), func(i, j int) { list[i], list[j] = list[j], list[i] })
	write := func(d *big.Int, x int) string { return d.String() + "e" + strconv.Itoa(x) }
	read := func(s string) float64 {
		f, err := ParsePlain(s)
		if err != nil {
			t.Fatalf("ParsePlain(%q): %v", s, err)
		}
		return f
	}
	exact := 0
	for _, low := range append(list[:1500], least, normal, normal-least) {
		high := math.Nextafter(low, inf)
		if high > most {
			continue
		}
		half := new(big.Rat).Add(exactly(low), exactly(high))
		half.Quo(half, big.NewRat(2, 1))
		d, x, all := digitsOf(half, digits)
		want := low
		if all {
			exact++
			if math.Float64bits(low)&1 == 1 {
				want = high
			}
			if got := read(write(new(big.Int).Sub(d, big.NewInt(1)), x)); got != low {
				t.Errorf("just below halfway from %v: %v", low, got)
			}
		}
		if got := read(write(d, x)); got != want {
			t.Errorf("halfway from %v: %v, want %v (all its digits: %v)", low, got, want, all)
		}
		if got := read(write(new(big.Int).Add(d, big.NewInt(1)), x)); got != high {
			t.Errorf("just above halfway from %v: %v", low, got)
		}
	}
	if exact < 100 {
		t.Errorf("%d numbers are halfway to the digit", exact)
	}
}

func TestHalfTheLeastFloat(t *testing.T) {
	half := new(big.Rat).Quo(exactly(least), big.NewRat(2, 1))
	d, x, all := digitsOf(half, 390)
	if all {
		t.Fatal("half the least float has fewer digits")
	}
	below := d.String() + "e" + strconv.Itoa(x)
	above := new(big.Int).Add(d, big.NewInt(1)).String() + "e" + strconv.Itoa(x)
	for s, want := range map[string]float64{below: 0, above: least, "-" + below: minusZero, "-" + above: -least} {
		if got, err := ParsePlain(s); err != nil || !alike(got, want) {
			t.Errorf("ParsePlain(%q) = %v, %v, want %v", s, got, err, want)
		}
	}
}

// TestParsePlainNeverFalls reads rising numbers; those beyond all floats stand for infinities of their sign.
func TestParsePlainNeverFalls(t *testing.T) {
	type written struct {
		text   string
		number *big.Rat
	}
	var list []written
	add := func(s string) {
		number, ok := new(big.Rat).SetString(s)
		if !ok {
			t.Fatal(s)
		}
		list = append(list, written{s, number})
	}
	r := rand.New(rand.NewSource(6))
	for range 1500 {
		add(someText(r))
		near := strconv.FormatFloat(1+r.Float64()*0x1p-50, 'f', 15+r.Intn(10), 64)
		add(near)
		add(near + someDigits(r, 1+r.Intn(300)))
		add("-" + near + "e-323")
		add(near + someDigits(r, 5) + "e308")
	}
	slices.SortFunc(list, func(a, b written) int { return a.number.Cmp(b.number) })
	last := -inf
	for _, w := range list {
		f, err := ParsePlain(w.text)
		if err != nil {
			f = math.Inf(w.number.Sign())
		}
		if f < last {
			t.Fatalf("%s is read as %v, a lesser number as %v", w.text, f, last)
		}
		last = f
	}
}

func TestNoTextPanics(t *testing.T) {
	r := rand.New(rand.NewSource(7))
	for range 20000 {
		s := make([]byte, r.Intn(40))
		for i := range s {
			s[i] = "0123456789.e-,;abcdefnif\x00\xff"[r.Intn(26)]
		}
		checkParsePlain(t, string(s))
		if f, err := ParseFloat(string(s)); (err == nil) != takesFloat(string(s)) || err != nil && (err != api.ErrText || f != 0) {
			t.Fatalf("ParseFloat(%q) = %v, %v", s, f, err)
		}
		if c, err := ParseComplex(string(s)); err != nil && (err != api.ErrText || c != 0) || err == nil && Complex(c) != string(s) {
			t.Fatalf("ParseComplex(%q) = %v, %v", s, c, err)
		}
		if list, _, err := ParseList(string(s)); err != nil && (err != api.ErrText || list != nil) || err == nil && List(list) != string(s) {
			t.Fatalf("ParseList(%q) = %v, %v", s, list, err)
		}
	}
}
