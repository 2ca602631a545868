package order

import (
	"math/rand"
	"regexp"
	"slices"
	"strconv"
	"strings"
	"testing"

	"timbre/api"
)

// form writes a tree of the four kinds by the chapter's words, good or not.
func form(o api.Order) string {
	switch o.Kind {
	case api.OrderDirect:
		return "d" + strconv.Itoa(o.N)
	case api.OrderFly:
		return "f" + strconv.Itoa(o.N)
	case api.OrderTimes:
		return "(" + form(o.Kids[0]) + " x " + form(o.Kids[1]) + ")"
	}
	return "b" + strconv.Itoa(o.N) + "(" + form(o.Kids[0]) + ")"
}

// someForm is any tree whose text is of an order's form.
func someForm(r *rand.Rand, levels int) api.Order {
	n := 1 + r.Intn([]int{9, 99, 999, 9999, 99999, 999999}[r.Intn(6)])
	switch kind := r.Intn(6); {
	case levels > 1 && kind < 2:
		return times(someForm(r, levels-1), someForm(r, levels-1))
	case levels > 1 && kind < 4:
		return blue(n, someForm(r, levels-1))
	case kind == 4:
		return Fly(n)
	}
	return Direct(n)
}

// ofForm takes texts apart from within, by patterns: another way to tell whether a text is of an order's form.
func ofForm(s string) bool {
	if strings.Contains(s, "o") {
		return false
	}
	leaf := regexp.MustCompile(`[df][1-9][0-9]{0,5}($|[ )])`)
	node := regexp.MustCompile(`\(o x o\)|b[1-9][0-9]{0,5}\(o\)`)
	s = leaf.ReplaceAllString(s, "o$1")
	for was := ""; was != s; {
		was, s = s, node.ReplaceAllString(s, "o")
	}
	return s == "o"
}

// wanted is a machine that holds what must still come, the next thing last: O an order, N a number, 1 to 5 so many further digits, or a byte itself.
type wanted string

// step is what is wanted behind one more byte; false, if no text of an order's form goes on so.
func (w wanted) step(b byte) (wanted, bool) {
	if w == "" {
		return "", false
	}
	top, rest := w[len(w)-1], w[:len(w)-1]
	switch {
	case top == 'O' && (b == 'd' || b == 'f'):
		return rest + "N", true
	case top == 'O' && b == '(':
		return rest + ")O x O", true
	case top == 'O' && b == 'b':
		return rest + ")O(N", true
	case top == 'N' && b >= '1' && b <= '9':
		return rest + "5", true
	case top >= '2' && top <= '5' && b >= '0' && b <= '9':
		return rest + wanted(top-1), true
	case top == '1' && b >= '0' && b <= '9':
		return rest, true
	case top >= '1' && top <= '5': // no digit: the number is at its end
		return rest.step(b)
	case top == b && top != 'O' && top != 'N':
		return rest, true
	}
	return "", false
}

func (w wanted) done() bool {
	return w == "" || len(w) == 1 && w[0] >= '1' && w[0] <= '5'
}

// faultOf is the place of the first fault; -1, if the text is of an order's form.
func faultOf(s string) int {
	w := wanted("O")
	for i := range len(s) {
		next, ok := w.step(s[i])
		if !ok {
			return i
		}
		w = next
	}
	if w.done() {
		return -1
	}
	return len(s)
}

// finished is a text of an order's form that goes on from s: what is wanted is written out.
func finished(s string) (string, bool) {
	w := wanted("O")
	for i := range len(s) {
		next, ok := w.step(s[i])
		if !ok {
			return "", false
		}
		w = next
	}
	for i := len(w) - 1; i >= 0; i-- {
		switch c := w[i]; {
		case c == 'O':
			s += "f2"
		case c == 'N':
			s += "7"
		case c < '1' || c > '5':
			s += string(c)
		}
	}
	return s, true
}

// checkParse holds Parse of a text against the chapter's words.
func checkParse(t *testing.T, s string) {
	t.Helper()
	o, at, err := Parse(s)
	switch place := faultOf(s); {
	case place >= 0:
		if err != api.ErrText || at != place || !alike(o, api.Order{}) || o.Kids != nil {
			t.Fatalf("Parse(%q) is %v, %d, %v; the place of its fault is %d", s, o, at, err, place)
		}
	case err == api.ErrOrder:
		tree, place, err := read(s)
		if at != 0 || !alike(o, api.Order{}) || o.Kids != nil || err != nil || place != 0 || form(tree) != s || lengthByWords(tree) != 0 {
			t.Fatalf("Parse(%q) is %v, %d, ErrOrder, of the tree %v", s, o, at, tree)
		}
	default:
		if text, textErr := Text(o); err != nil || at != 0 || form(o) != s || text != s || textErr != nil || lengthByWords(o) == 0 {
			t.Fatalf("Parse(%q) is %v, %d, %v, the text of which is %q, %v", s, o, at, err, text, textErr)
		}
	}
}

func TestTextAndParseExamples(t *testing.T) {
	for _, c := range []struct {
		o             api.Order
		text          string
		length, depth int
	}{
		{Times(Fly(4), Times(Direct(7), Fly(2))), "(f4 x (d7 x f2))", 56, 3},
		{Blue(11, Times(Fly(4), Times(Fly(4), Fly(2)))), "b11((f4 x (f4 x f2)))", 11, 4},
		{Direct(1), "d1", 1, 1},
		{Direct(64), "d64", 64, 1},
		{Fly(2), "f2", 2, 1},
		{Blue(2, Fly(3)), "b2(f3)", 2, 2},
		{Blue(3, Fly(5)), "b3(f5)", 3, 2},
		{Times(Fly(2), Direct(2)), "(f2 x d2)", 4, 2},
		{Times(Times(Direct(10), Blue(2, Direct(3))), Fly(5)), "((d10 x b2(d3)) x f5)", 100, 4},
		{Blue(8192, Times(Direct(64), Times(Direct(64), Fly(4)))), "b8192((d64 x (d64 x f4)))", 8192, 4},
	} {
		if got, err := Text(c.o); got != c.text || err != nil || Length(c.o) != c.length || Depth(c.o) != c.depth {
			t.Errorf("%s: Text is %q, %v, the length %d, the depth %d", c.text, got, err, Length(c.o), Depth(c.o))
		}
		if got, at, err := Parse(c.text); !alike(got, c.o) || at != 0 || err != nil {
			t.Errorf("Parse(%q) is %v, %d, %v", c.text, got, at, err)
		}
	}
	for _, s := range []string{"f6", "d65", "b11(f5)", "f1", "b1(f2)", "(d1 x f2)", "(f2 x d1)", "d999999", "f123456", "b999999(f2)", "b100000(d64)", "((d64 x d64) x f5)", form(chainOf(17)), strings.Repeat("(f2 x ", 2000) + "f2" + strings.Repeat(")", 2000)} {
		if o, at, err := Parse(s); !alike(o, api.Order{}) || at != 0 || err != api.ErrOrder {
			t.Errorf("Parse(%q) is %v, %d, %v", s, o, at, err)
		}
	}
}

func TestPlacesOfFaults(t *testing.T) {
	for s, want := range map[string]int{
		"": 0, "f": 1, "d1x": 2, "(f2 x f2": 8, "(f2xf2)": 3, "d0": 1, "d1234567": 7, "f2 ": 2,
		"(f2 x f2))": 9, "x": 0, "b4f2": 2, "b4(f2": 5, "(f2 x": 5, "F2": 0, " f2": 0, "(f2  x f2)": 4,
		"d": 1, "b": 1, "(": 1, "b1": 2, "b(": 1, "b01(f2)": 1, "b1234567(f2)": 7, "d-1": 1, "d+1": 1, "d 1": 1, "d1.": 2,
		"()": 1, "(f2)": 3, "(f2 x )": 6, "(f2 x f2 x f2)": 8, "(f2 X f2)": 4, "(f2 x  f2)": 6, "(f2 xf2)": 5, "f2f2": 2,
		"b2()": 3, "b2(f3))": 6, "b2((f3)": 6, "b2(f3 x f3)": 5, "b2 (f3)": 2, "c2": 0, "2": 0, ")": 0, "\x00": 0, "d\x00": 1, "d1\x00": 2, "(f2\x00": 3,
		"d1\n": 2, "(f2\tx f2)": 3, "d\u0661": 1, "d1\xff": 2, "\ufefff2": 0, "f\u00b2": 1, "d12345": -1, "d123456": -1, "d1234560": 7, "(d1234560 x f2)": 8, "b1234560(f2)": 7,
	} {
		if place := faultOf(s); place != want {
			t.Fatalf("the machine's place of %q is %d", s, place)
		}
		checkParse(t, s)
		if o, at, err := Parse(s); want >= 0 && (at != want || err != api.ErrText || !alike(o, api.Order{})) {
			t.Errorf("Parse(%q) is %v, %d, %v", s, o, at, err)
		}
	}
}

// eachText goes over all texts of so many bytes of an alphabet.
func eachText(alphabet string, n int, yield func(string)) {
	text := make([]byte, n)
	var from func(int)
	from = func(i int) {
		if i == n {
			yield(string(text))
			return
		}
		for k := range len(alphabet) {
			text[i] = alphabet[k]
			from(i + 1)
		}
	}
	from(0)
}

func TestAllShortTexts(t *testing.T) {
	taken := 0
	check := func(s string) {
		checkParse(t, s)
		if _, _, err := Parse(s); err == nil {
			taken++
		}
	}
	for n := range 6 {
		eachText("dfb() x0125", n, check)
	}
	eachText("db() x12", 6, check)
	for _, start := range []string{"(f2", "(f2 x f2", "b2(d3", "b12345", "(f2 x ", "((f3 x f4) x b", "f00", "f1", "f12345", "f123456"} {
		eachText("dfb() x0125", 4, func(s string) { check(start + s) })
	}
	if taken < 20 {
		t.Error("texts that were taken:", taken)
	}
	for b := range 256 {
		for _, start := range []string{"", "d", "f", "b", "(", "d1", "d10", "d123456", "b1", "b1(", "(f2", "(f2 ", "(f2 x", "(f2 x ", "(f2 x f2", "(f2 x f2)", "b2(f3", "b2(f3)"} {
			checkParse(t, start+string([]byte{byte(b)}))
		}
	}
}

// The machine, too, is held against another telling: its texts are those that patterns take apart, and it goes on just from their beginnings.
func TestMachineOfTheForm(t *testing.T) {
	for n := range 7 {
		eachText("db() x1", n, func(s string) {
			if (faultOf(s) < 0) != ofForm(s) {
				t.Fatalf("%q: the machine says %d", s, faultOf(s))
			}
			if whole, ok := finished(s); ok != (faultOf(s) < 0 || faultOf(s) == len(s)) || ok && (!strings.HasPrefix(whole, s) || !ofForm(whole)) {
				t.Fatalf("%q goes on to %q, %v", s, whole, ok)
			}
		})
	}
}

// P12.3, and P12.1 of texts of any length.
func TestPlacesInLongTexts(t *testing.T) {
	r := rand.New(rand.NewSource(8))
	const bytes = "dfb() x0123456789\x00yD.\xc3"
	for range 3000 {
		s := form(someForm(r, 1+r.Intn(9)))
		if len(s) > 2000 {
			continue
		}
		checkParse(t, s)
		if !ofForm(s) {
			t.Fatalf("%q isn't of an order's form", s)
		}
		cut := r.Intn(len(s) + 1)
		checkParse(t, s[:cut])
		for range 4 {
			spoilt := []byte(s)
			switch i := r.Intn(len(s)); r.Intn(4) {
			case 0:
				spoilt[i] = bytes[r.Intn(len(bytes))]
			case 1:
				spoilt = slices.Insert(spoilt, i, bytes[r.Intn(len(bytes))])
			case 2:
				spoilt = slices.Delete(spoilt, i, i+1)
			case 3:
				spoilt = append(spoilt, bytes[r.Intn(len(bytes))])
			}
			checkParse(t, string(spoilt))
			_, at, err := Parse(string(spoilt))
			if err != api.ErrText {
				continue
			}
			if whole, ok := finished(string(spoilt[:at])); !ok || !ofForm(whole) {
				t.Fatalf("%q: the text up to %d goes on to %q", spoilt, at, whole)
			}
		}
	}
}

// P12.2.
func TestThereAndBack(t *testing.T) {
	r := rand.New(rand.NewSource(9))
	met := map[string]api.Order{}
	for range 20000 {
		o := someGood(r, 1+r.Intn(9))
		s, err := Text(o)
		if err != nil || s != form(o) {
			t.Fatalf("Text of %v is %q, %v", o, s, err)
		}
		back, at, err := Parse(s)
		if !alike(back, o) || !Same(back, o) || at != 0 || err != nil {
			t.Fatalf("Parse(%q) is %v, %d, %v", s, back, at, err)
		}
		if other, ok := met[s]; ok && !Same(other, o) {
			t.Fatalf("%v and %v have the text %q", o, other, s)
		}
		met[s] = o
	}
	texts := 0
	for s, o := range met {
		for other, p := range met {
			if s != other && Same(o, p) {
				t.Fatalf("one order has the texts %q and %q", s, other)
			}
		}
		if texts++; texts == 200 {
			break
		}
	}
}

func TestLongTexts(t *testing.T) {
	for _, c := range []struct {
		text string
		at   int
		err  error
	}{
		{strings.Repeat("(", 65536), 65536, api.ErrText},
		{strings.Repeat("(", 65537), 0, api.ErrLimit},
		{strings.Repeat("x", 65536), 0, api.ErrText},
		{strings.Repeat("x", 65537), 0, api.ErrLimit},
		{strings.Repeat("b2(", 21845) + "f", 65536, api.ErrText},
		{strings.Repeat("b2(", 21845) + "(f", 0, api.ErrLimit},
		{strings.Repeat("(f2 x ", 9362) + "f2" + strings.Repeat(")", 9362), 0, api.ErrOrder},          // 65536 bytes
		{strings.Repeat("(f2 x ", 9362) + "f2" + strings.Repeat(")", 9361) + "x", 65535, api.ErrText}, // 65536 bytes
		{strings.Repeat("(f2 x ", 9362) + "f22" + strings.Repeat(")", 9362), 0, api.ErrLimit},         // 65537 bytes
		{"f2" + strings.Repeat(" ", 65534), 2, api.ErrText},
		{"f2" + strings.Repeat(" ", 65535), 0, api.ErrLimit},
		{"d" + strings.Repeat("1", 65535), 7, api.ErrText},
		{strings.Repeat("b2(", 16383) + "d3" + strings.Repeat(")", 16383), 0, api.ErrOrder},
		{strings.Repeat("f2", 1<<20), 0, api.ErrLimit},
	} {
		if o, at, err := Parse(c.text); at != c.at || err != c.err || !alike(o, api.Order{}) {
			t.Errorf("Parse of %.9s.. (%d bytes) is %d, %v; want %d, %v", c.text, len(c.text), at, err, c.at, c.err)
		}
	}
}

func TestParseAnswersNewMemory(t *testing.T) {
	const s = "((f2 x f3) x b3(d5))"
	first, _, _ := Parse(s)
	second, _, _ := Parse(s)
	lists := map[*api.Order]int{}
	countLists(first, lists)
	countLists(second, lists)
	for _, n := range lists {
		if n != 1 {
			t.Fatal("the answers of Parse share memory")
		}
	}
	clear(first.Kids)
	if third, at, err := Parse(s); !alike(third, second) || at != 0 || err != nil {
		t.Error("behind a write into an answer:", third, at, err)
	}
}
