package plan

import (
	"encoding/binary"
	"math/rand"
	"slices"
	"strings"
	"testing"

	"timbre/api"
	"timbre/compile"
	"timbre/order"
	"timbre/steps"
)

// toldParse is what a text says: the error, or the order and the way.
func toldParse(s string) (api.Order, int, error) {
	way := api.Deep
	if strings.HasPrefix(s, "wide") {
		way = api.Wide
	} else if !strings.HasPrefix(s, "deep") {
		return api.Order{}, 0, api.ErrText
	}
	if len(s) < 5 || s[4] != ' ' {
		return api.Order{}, 0, api.ErrText
	}
	o, _, err := order.Parse(s[5:])
	if err != nil {
		return api.Order{}, 0, api.ErrText
	}
	if _, err = compile.Program(o, way); err != nil {
		return api.Order{}, 0, api.ErrProgram
	}
	return o, way, nil
}

// holdParse holds what Parse makes of any text, P20.4 too, and tells whether it is taken.
func holdParse(t *testing.T, s string) bool {
	t.Helper()
	o, way, want := toldParse(s)
	p, err := Parse(s)
	if want != nil {
		if p != nil || err != want {
			t.Fatalf("Parse of %.80q is %v, %v, want %v", s, p, err, want)
		}
		return false
	}
	if err != nil {
		t.Fatalf("Parse of %.80q: %v", s, err)
	}
	holdPlan(t, p, o, way)
	if p.Text() != s {
		t.Fatalf("Parse of %.80q has the text %q", s, p.Text())
	}
	return true
}

func TestTexts(t *testing.T) {
	taken := 0
	hold := func(s string) {
		t.Helper()
		if holdParse(t, s) {
			taken++
		}
	}
	for _, o := range []string{"d1", "f4", "d64", "(f2 x d3)", "b2(f4)", "b11((f4 x (f4 x f2)))"} {
		for _, word := range []string{"deep ", "wide "} {
			s := word + o
			if !holdParse(t, s) {
				t.Errorf("%q isn't taken", s)
			}
			for at := range len(s) + 1 {
				hold(s[:at])
				hold(s[at:])
				hold(s + s[:at])
				for b := range 256 {
					hold(s[:at] + string([]byte{byte(b)}) + s[at:])
					if at < len(s) {
						hold(s[:at] + string([]byte{byte(b)}) + s[at+1:])
					}
				}
				if at < len(s) {
					hold(s[:at] + s[at+1:])
					hold(s[:at] + strings.ToUpper(s[at:at+1]) + s[at+1:])
				}
			}
		}
		for _, word := range []string{"", " ", "deep", "wide", "Deep ", "WIDE ", "deep  ", " deep ", "deep\t", "deep\n", "deep\u00a0", "deeper ", "dee ", "0 ", "1 ", "deep wide ", "deep deep "} {
			hold(word + o)
		}
	}
	if taken < 100 {
		t.Error("so few texts are taken:", taken)
	}
}

// Texts of an order's form whose order isn't good are no texts of plans; neither are texts of any length that layer 12 refuses.
func TestRefusedTexts(t *testing.T) {
	for _, word := range []string{"deep ", "wide "} {
		for _, s := range []string{
			"f6", "d65", "d0", "b11(f5)", "(d1 x f2)", "b1(f2)", "d1234567", "(d64 x (d64 x (d64 x d64)))",
			strings.Repeat("(", 20) + "f2" + strings.Repeat(" x f2)", 20),
			strings.Repeat("(", 65530), strings.Repeat("(", 65531), strings.Repeat("(", 65532), strings.Repeat("(", 65536), strings.Repeat("(", 65537), strings.Repeat("f", 1<<20),
			"f4" + strings.Repeat(" ", 65540),
			strings.Repeat("b2(", 16000) + "f4" + strings.Repeat(")", 16000), // in at most MaxText bytes
			strings.Repeat("b2(", 17000) + "f4" + strings.Repeat(")", 17000), // in more
		} {
			p, err := Parse(word + s)
			refused(t, "Parse of a wrong text", p, err, api.ErrText)
		}
	}
}

// toldDecode is what bytes say, one after the other.
func toldDecode(b []byte) (api.Order, int, error) {
	size, at := 0, 0
	for i := 0; ; i++ {
		switch {
		case i == len(b):
			return api.Order{}, 0, api.ErrShort
		case i == 9 && b[i] > 1, i > 0 && b[i] == 0:
			return api.Order{}, 0, api.ErrVarint
		}
		if i < 8 { // beyond that it is far above MaxText in any case
			size += int(b[i]&127) << (7 * i)
		} else if b[i]&127 > 0 {
			size = 1 << 60
		}
		if b[i] < 128 {
			at = i + 1
			break
		}
	}
	if size > 65536 {
		return api.Order{}, 0, api.ErrLimit
	}
	if len(b)-at < size {
		return api.Order{}, 0, api.ErrShort
	}
	program, err := steps.Decode(b[at+size:])
	if err != nil {
		return api.Order{}, 0, api.ErrProgram
	}
	o, way, err := toldParse(string(b[at : at+size]))
	if err != nil {
		return api.Order{}, 0, err
	}
	if !steps.Same(program, must(compile.Program(o, way))) {
		return api.Order{}, 0, api.ErrProgram
	}
	return o, way, nil
}

// holdDecode holds what Decode makes of any bytes, P20.4 too, and answers the error.
func holdDecode(t *testing.T, b []byte) error {
	t.Helper()
	o, way, want := toldDecode(b)
	p, err := Decode(b)
	if want != nil {
		if p != nil || err != want {
			t.Fatalf("Decode of %.200x is %v, %v, want %v", b, p, err, want)
		}
		return err
	}
	if err != nil {
		t.Fatalf("Decode of %.200x: %v", b, err)
	}
	holdPlan(t, p, o, way)
	if !slices.Equal(p.Encode(), b) {
		t.Fatalf("Decode of %.200x has the bytes %x", b, p.Encode())
	}
	return nil
}

// The bytes of a small plan, written out.
func TestBytes(t *testing.T) {
	written := "\x07wide f2" + "\x02\x04\x00\x02\x02" + "\x01\x02\x00\x01\x02" + "\x05\x02\x01\x01\x02"
	if got := string(must(Parse("wide f2")).Encode()); got != written {
		t.Errorf("Encode is %x, want %x", got, written)
	}
	if err := holdDecode(t, []byte(written)); err != nil {
		t.Error(err)
	}
}

// Every byte changed, taken away and added, and every beginning of the bytes.
func TestSpoiltBytes(t *testing.T) {
	met := map[error]int{}
	hold := func(b []byte) { t.Helper(); met[holdDecode(t, b)]++ }
	for _, s := range []string{"deep d1", "wide f4", "deep (f2 x d3)", "wide (d2 x f2)", "deep b2(f4)"} {
		p := must(Parse(s))
		b := p.Encode()
		hold(b)
		for at := range b {
			hold(b[:at])
			hold(b[at:])
			hold(slices.Delete(slices.Clone(b), at, at+1))
			for x := range 256 {
				hold(slices.Concat(b[:at], []byte{byte(x)}, b[at+1:]))
			}
		}
		for at := range len(b) + 1 {
			for _, x := range []byte{0, 1, 2, ' ', 'd', 127, 128, 255} {
				hold(slices.Insert(slices.Clone(b), at, x))
			}
		}
	}
	for _, err := range []error{nil, api.ErrShort, api.ErrText, api.ErrProgram} {
		if met[err] == 0 {
			t.Errorf("no bytes with the error %v", err)
		}
	}
}

// Which error comes first, where there are several.
func TestDecodeErrors(t *testing.T) {
	good := must(steps.Encode(must(Parse("deep f4")).Program()))
	bad := slices.Concat(good, []byte{0})
	beyondLimits := "deep " + beyond[0]
	long := strings.Repeat("(", 65536)
	for _, c := range []struct {
		name string
		b    []byte
		want error
	}{
		{"nothing", nil, api.ErrShort},
		{"a varint cut short", []byte{0x87}, api.ErrShort},
		{"a varint that isn't the shortest", slices.Concat([]byte{0x87, 0}, []byte("deep f4"), good), api.ErrVarint},
		{"a varint above 64 bits", slices.Concat(slices.Repeat([]byte{0xff}, 9), []byte{2}), api.ErrVarint},
		{"a text of all bytes that there are", slices.Concat(slices.Repeat([]byte{0xff}, 9), []byte{1}), api.ErrLimit},
		{"a text of MaxText and one more", append(textBytes(long+"("), good...), api.ErrLimit},
		{"one of so many bytes that aren't there", binary.AppendUvarint(nil, 65537), api.ErrLimit},
		{"one of MaxText that aren't there", binary.AppendUvarint(nil, 65536), api.ErrShort},
		{"a text of MaxText", append(textBytes(long), good...), api.ErrText},
		{"the same, and a bad program", append(textBytes(long), bad...), api.ErrProgram},
		{"a text alone", textBytes("deep f4"), api.ErrProgram},
		{"a wrong text and no program", textBytes("f4"), api.ErrProgram},
		{"a wrong text", append(textBytes("f4"), good...), api.ErrText},
		{"the empty text", append(textBytes(""), good...), api.ErrText},
		{"an order that isn't good", append(textBytes("deep f6"), good...), api.ErrText},
		{"an order beyond the limits", append(textBytes(beyondLimits), good...), api.ErrProgram},
		{"a bad program", append(textBytes("deep f4"), bad...), api.ErrProgram},
		{"another order's program", append(textBytes("deep d4"), good...), api.ErrProgram},
		{"the other way's text of the same program", append(textBytes("wide f4"), good...), nil},
	} {
		if err := holdDecode(t, c.b); err != c.want {
			t.Errorf("%s: %v, want %v", c.name, err, c.want)
		}
	}
	for _, s := range []string{"(d2 x f2)", "((f2 x d2) x f3)", "(f3 x (f2 x d2))"} { // orders whose ways have other programs
		o := parsed(s)
		for _, way := range ways {
			crossed := append(textBytes(textOf(o, 1-way)), must(steps.Encode(must(compile.Program(o, way))))...)
			if err := holdDecode(t, crossed); err != api.ErrProgram {
				t.Errorf("the program of the other way of %s: %v", s, err)
			}
		}
	}
}

// A program that is like the plan's own but in one number.
func TestOtherPrograms(t *testing.T) {
	for _, s := range []string{"wide f4", "deep (f2 x d3)", "deep b2(f4)"} {
		p := must(Parse(s))
		hold := func(change func(*api.Program)) {
			t.Helper()
			other := p.Program()
			change(&other)
			b, err := steps.Encode(other)
			if err != nil {
				return
			}
			if q, err := Decode(append(textBytes(s), b...)); q != nil || err != api.ErrProgram {
				t.Errorf("%s with the program %+v: %v", s, other, err)
			}
		}
		hold(func(q *api.Program) { q.Length++ })
		hold(func(q *api.Program) { q.Cells++ })
		hold(func(q *api.Program) { q.In++ })
		hold(func(q *api.Program) { q.Out-- })
		hold(func(q *api.Program) { q.Steps = q.Steps[1:] })
		hold(func(q *api.Program) { q.Steps = append(q.Steps, q.Steps[0]) })
		for i := range p.Program().Steps {
			for _, off := range []int{-1, 1, 3} {
				hold(func(q *api.Program) { q.Steps[i].Op += off })
				hold(func(q *api.Program) { q.Steps[i].Dst += off })
				hold(func(q *api.Program) { q.Steps[i].Src += off })
				hold(func(q *api.Program) { q.Steps[i].Jump += off })
				hold(func(q *api.Program) { q.Steps[i].Count += off })
				hold(func(q *api.Program) { q.Steps[i].N += off })
				hold(func(q *api.Program) { q.Steps[i].K += off })
			}
		}
	}
}

// There and back, over any orders: P20.4.
func TestThereAndBack(t *testing.T) {
	r := rand.New(rand.NewSource(38))
	for range 300 {
		o := anyOrder(r, 1+r.Intn(6))
		for _, way := range ways {
			if !holdParse(t, textOf(o, way)) {
				t.Errorf("%q isn't taken", textOf(o, way))
			}
			if err := holdDecode(t, bytesOf(o, way)); err != nil {
				t.Errorf("the bytes of %q aren't taken: %v", textOf(o, way), err)
			}
		}
	}
	const some = "\x00\x01\x02\x07\x80\xff deepwif4(x"
	for range 100000 { // any bytes
		b := make([]byte, r.Intn(40))
		for i := range b {
			b[i] = some[r.Intn(len(some))]
		}
		holdDecode(t, b)
	}
}
