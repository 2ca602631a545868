package pack

import (
	"bytes"
	"encoding/binary"
	"fmt"
	"math"
	"math/rand"
	"slices"
	"strings"
	"testing"

	"timbre/api"
)

const (
	least    = 0x1p-1074 // the least float above 0
	normal   = 0x1p-1022 // the least normal float
	most     = math.MaxFloat64
	great    = math.MaxInt // a limit that is great enough
	floatNaN = 0x7ff8000000000000
)

var (
	minusZero = math.Copysign(0, -1)
	inf       = math.Inf(1)
	nan       = math.NaN()
)

// strangeNaN are the bits of NaN of several kinds: either sign, quiet and not, all but the one that is written.
var strangeNaN = []uint64{0x7ff8000000000001, 0x7ff0000000000001, 0x7ff7ffffffffffff, 0x7fffffffffffffff, 0xfff0000000000001, 0xfff8000000000000, 0xffffffffffffffff}

// strangeHalves are such NaN of 32 bits.
var strangeHalves = []uint32{0x7fc00001, 0x7f800001, 0x7fbfffff, 0x7fffffff, 0xff800001, 0xffc00000, 0xffffffff}

// uints are at every edge of the varint's length, and any.
func uints() []uint64 {
	list := []uint64{0, 1, 2, 126, api.MaxList - 1, api.MaxList, api.MaxList + 1, math.MaxInt64, math.MaxInt64 + 1, math.MaxUint64 - 1, math.MaxUint64}
	for bit := 1; bit < 64; bit++ {
		list = append(list, 1<<bit-1, 1<<bit, 1<<bit+1)
	}
	r := rand.New(rand.NewSource(4))
	for range 500 {
		list = append(list, r.Uint64()>>r.Intn(64))
	}
	return list
}

func floats() []float64 {
	list := []float64{nan}
	for _, f := range []float64{0, least, normal - least, normal, 0.1, 0.5, 1, 1.5, 0x1p53 - 1, most, inf} {
		list = append(list, f, -f, math.Copysign(f, -1))
	}
	r := rand.New(rand.NewSource(5))
	for range 100 {
		list = append(list, math.Float64frombits(r.Uint64()))
	}
	for _, b := range strangeNaN {
		list = append(list, math.Float64frombits(b))
	}
	return list
}

func halves() []float32 {
	list := []float32{float32(nan)}
	for _, f := range []float32{0, 0x1p-149, 0x1p-126 - 0x1p-149, 0x1p-126, 0.1, 1, math.MaxFloat32, float32(inf)} {
		list = append(list, f, -f, float32(math.Copysign(float64(f), -1)))
	}
	r := rand.New(rand.NewSource(6))
	for range 100 {
		list = append(list, math.Float32frombits(r.Uint32()))
	}
	for _, b := range strangeHalves {
		list = append(list, math.Float32frombits(b))
	}
	return list
}

// kind is one of the calls by which values are written and read.
type kind int

const (
	uintKind kind = iota
	intKind
	floatKind
	complexKind
	narrowKind
	textKind
	listKind
	floatsKind
	kinds
)

func (k kind) String() string {
	return []string{"Uint", "Int", "Float", "Complex", "Narrow", "Text", "List", "Floats"}[k]
}

// form is a value's form by the library's own writers: of the chapter's section Forms, told another way than by the program.
func form(value any) []byte {
	low := binary.LittleEndian
	switch x := value.(type) {
	case uint64:
		return binary.AppendUvarint(nil, x)
	case int64:
		return binary.AppendVarint(nil, x)
	case float64:
		if x != x {
			return low.AppendUint64(nil, floatNaN)
		}
		return low.AppendUint64(nil, math.Float64bits(x))
	case float32:
		if x != x {
			return low.AppendUint32(nil, 0x7fc00000)
		}
		return low.AppendUint32(nil, math.Float32bits(x))
	case complex128:
		return append(form(real(x)), form(imag(x))...)
	case complex64:
		return append(form(real(x)), form(imag(x))...)
	case string:
		return append(form(uint64(len(x))), x...)
	case []complex128:
		out := form(uint64(len(x)))
		for _, c := range x {
			out = append(out, form(c)...)
		}
		return out
	case []float64:
		out := form(uint64(len(x)))
		for _, f := range x {
			out = append(out, form(f)...)
		}
		return out
	}
	panic("no value")
}

// write writes a value by the call of its kind.
func write(w *Writer, value any) error {
	switch x := value.(type) {
	case uint64:
		w.Uint(x)
	case int64:
		w.Int(x)
	case float64:
		w.Float(x)
	case complex128:
		w.Complex(x)
	case complex64:
		w.Narrow(x)
	case string:
		w.Text(x)
	case []complex128:
		return w.List(x)
	case []float64:
		return w.Floats(x)
	}
	return nil
}

func kindOf(value any) kind {
	switch value.(type) {
	case uint64:
		return uintKind
	case int64:
		return intKind
	case float64:
		return floatKind
	case complex128:
		return complexKind
	case complex64:
		return narrowKind
	case string:
		return textKind
	case []complex128:
		return listKind
	}
	return floatsKind
}

// read reads a value by the call of that kind.
func read(r *Reader, k kind) (any, error) {
	switch k {
	case uintKind:
		return both(r.Uint())
	case intKind:
		return both(r.Int())
	case floatKind:
		return both(r.Float())
	case complexKind:
		return both(r.Complex())
	case narrowKind:
		return both(r.Narrow())
	case textKind:
		return both(r.Text(great))
	case listKind:
		return both(r.List())
	}
	return both(r.Floats())
}

func both[T any](value T, err error) (any, error) { return value, err }

// told is what the chapter says that a call answers of these bytes: the bytes of the form that it reads, or the error. It goes by the chapter's words, over the bytes alone.
func told(b []byte, k kind, limit int) ([]byte, error) {
	switch k {
	case uintKind, intKind:
		_, size, err := toldVarint(b)
		return b[:size], err
	case floatKind:
		return toldParts(b, 8, 1)
	case complexKind:
		return toldParts(b, 8, 2)
	case narrowKind:
		return toldParts(b, 4, 2)
	case textKind:
		x, size, err := toldVarint(b)
		switch {
		case err != nil:
			return nil, err
		case limit < 0 || x > uint64(limit):
			return nil, api.ErrLimit
		case x > uint64(len(b)-size):
			return nil, api.ErrShort
		}
		return b[:size+int(x)], nil
	}
	x, size, err := toldVarint(b)
	switch {
	case err != nil:
		return nil, err
	case x > 1<<20:
		return nil, api.ErrLimit
	}
	for range x {
		parts := 1
		if k == listKind {
			parts = 2
		}
		element, err := toldParts(b[size:], 8, parts)
		if err != nil {
			return nil, err
		}
		size += len(element)
	}
	return b[:size], nil
}

func toldVarint(b []byte) (uint64, int, error) {
	if len(b) >= 10 && b[9] > 1 && !slices.ContainsFunc(b[:9], func(c byte) bool { return c < 128 }) {
		return 0, 0, api.ErrVarint
	}
	x, size := binary.Uvarint(b)
	if size <= 0 {
		return 0, 0, api.ErrShort
	}
	if !bytes.Equal(b[:size], form(x)) {
		return 0, 0, api.ErrVarint
	}
	return x, size, nil
}

func toldParts(b []byte, size, count int) ([]byte, error) {
	if len(b) < size*count {
		return nil, api.ErrShort
	}
	for i := range count {
		part := b[i*size:][:size]
		var again []byte
		if size == 8 {
			again = form(math.Float64frombits(binary.LittleEndian.Uint64(part)))
		} else {
			again = form(math.Float32frombits(binary.LittleEndian.Uint32(part)))
		}
		if !bytes.Equal(part, again) {
			return nil, api.ErrNumber
		}
	}
	return b[:size*count], nil
}

// holdRead reads by a call, and holds answer and place against what is told.
func holdRead(t *testing.T, r *Reader, rest []byte, k kind) {
	t.Helper()
	at := r.At()
	if r.Left() != len(rest) {
		t.Fatalf("At %d, Left %d, but %d bytes are left", at, r.Left(), len(rest))
	}
	want, wantErr := told(rest, k, great)
	got, err := read(r, k)
	if err != wantErr {
		t.Fatalf("%v of % x: %v, want %v", k, rest, err, wantErr)
	}
	if err != nil {
		if r.At() != at || r.Left() != len(rest) {
			t.Fatalf("%v of % x: refused, and At went from %d to %d, Left is %d", k, rest, at, r.At(), r.Left())
		}
		if !bytes.Equal(form(got), form(zero(k))) {
			t.Fatalf("%v of % x: %v beside an error", k, rest, got)
		}
		return
	}
	if r.At() != at+len(want) || r.Left() != len(rest)-len(want) {
		t.Fatalf("%v of % x: At went from %d to %d, want %d on; Left is %d", k, rest, at, r.At(), len(want), r.Left())
	}
	// P4.3: what was read is the one form of what is answered, by the oracle and by the Writer.
	w := New()
	if err := write(w, got); err != nil || !bytes.Equal(form(got), want) || !bytes.Equal(w.Out(), want) {
		t.Fatalf("%v of % x = %v, which is written % x (%v), want % x", k, rest, got, w.Out(), err, want)
	}
}

func zero(k kind) any {
	return []any{uint64(0), int64(0), 0.0, complex128(0), complex64(0), "", []complex128(nil), []float64(nil)}[k]
}

// values are some of each kind, edges among them.
func values() []any {
	var list []any
	for _, x := range uints() {
		list = append(list, x, int64(x), -int64(x))
	}
	fs, hs := floats(), halves()
	for i, f := range fs {
		other := fs[(i*7+3)%len(fs)]
		list = append(list, f, complex(f, other), complex(other, f), []float64{f}, []complex128{complex(f, other), complex(other, other), complex(other, f)})
	}
	for i, f := range hs {
		other := hs[(i*7+3)%len(hs)]
		list = append(list, complex(f, other), complex(other, f))
	}
	for _, size := range []int{0, 1, 2, 127, 128, 129, 300} {
		list = append(list, strings.Repeat("a\x00\xff", size)[:size], slices.Repeat(fs, 3)[:size], make([]complex128, size))
	}
	return append(list, []float64(nil), []complex128(nil), []float64{}, []complex128{})
}

func TestExamples(t *testing.T) {
	zeros := func(n int) string { return strings.Repeat("\x00", n) }
	for _, c := range []struct {
		value any
		want  string
	}{
		{uint64(0), "\x00"}, {uint64(127), "\x7f"}, {uint64(128), "\x80\x01"}, {uint64(math.MaxUint64), strings.Repeat("\xff", 9) + "\x01"}, {uint64(300), "\xac\x02"},
		{int64(0), "\x00"}, {int64(-1), "\x01"}, {int64(1), "\x02"}, {int64(-2), "\x03"}, {int64(math.MaxInt64), "\xfe" + strings.Repeat("\xff", 8) + "\x01"}, {int64(math.MinInt64), strings.Repeat("\xff", 9) + "\x01"},
		{1.0, zeros(6) + "\xf0\x3f"}, {nan, zeros(6) + "\xf8\x7f"}, {math.Float64frombits(0x0102030405060708), "\x08\x07\x06\x05\x04\x03\x02\x01"},
		{complex(minusZero, nan), zeros(7) + "\x80" + zeros(6) + "\xf8\x7f"},
		{complex(float32(1), float32(nan)), "\x00\x00\x80\x3f\x00\x00\xc0\x7f"}, {complex(math.Float32frombits(0x01020304), math.Float32frombits(0x80000001)), "\x04\x03\x02\x01\x01\x00\x00\x80"},
		{[]complex128{}, "\x00"}, {[]float64{}, "\x00"}, {[]float64{0}, "\x01" + zeros(8)}, {[]complex128{1}, "\x01" + zeros(6) + "\xf0\x3f" + zeros(8)}, {"ab", "\x02ab"}, {"", "\x00"},
	} {
		w := New()
		if err := write(w, c.value); err != nil || string(w.Out()) != c.want || w.Len() != len(c.want) {
			t.Errorf("%T %v is written %q (%v), want %q", c.value, c.value, w.Out(), err, c.want)
		}
		r := Read([]byte(c.want))
		if got, err := read(r, kindOf(c.value)); err != nil || string(form(got)) != c.want || r.Done() != nil {
			t.Errorf("%q is read as %v, %v, want %v", c.want, got, err, c.value)
		}
	}
	for _, c := range []struct {
		bytes string
		kind  kind
		want  error
	}{
		{"\x01\x00\x00\x00\x00\x00\xf8\x7f", floatKind, api.ErrNumber}, {"\x80\x00", uintKind, api.ErrVarint}, {"\x80", uintKind, api.ErrShort}, {"", uintKind, api.ErrShort},
		{"\x05\x61", textKind, api.ErrShort}, {"\x81\x80\x40", listKind, api.ErrLimit}, {"\x81\x80\x40", floatsKind, api.ErrLimit}, {"\x80\x80\x40", floatsKind, api.ErrShort},
		{"\x02" + zeros(8), floatsKind, api.ErrShort}, {"\x02" + zeros(8), listKind, api.ErrShort},
		// The elements are read one by one: the first fault is told.
		{"\x02" + zeros(6) + "\xf8\xff", floatsKind, api.ErrNumber}, {"\x02" + zeros(14) + "\xf8\xff", listKind, api.ErrNumber}, {"\x01" + zeros(6) + "\xf8\xff", listKind, api.ErrShort},
		{zeros(6) + "\xf8\xff" + zeros(7), complexKind, api.ErrShort}, {"\x01\x00\xc0\x7f\x00\x00\x00", narrowKind, api.ErrShort}, {"\x00\x00\xc0\xff\x00\x00\x00\x00", narrowKind, api.ErrNumber},
	} {
		r := Read([]byte(c.bytes))
		if got, err := read(r, c.kind); err != c.want || r.At() != 0 || r.Left() != len(c.bytes) {
			t.Errorf("%v of %q = %v, %v, want %v", c.kind, c.bytes, got, err, c.want)
		}
	}
}

func TestForms(t *testing.T) {
	for _, value := range values() {
		w := New()
		if err := write(w, value); err != nil {
			t.Fatalf("%T %v: %v", value, value, err)
		}
		if want := form(value); !bytes.Equal(w.Out(), want) || w.Len() != len(want) {
			t.Fatalf("%T %v is written % x (Len %d), want % x", value, value, w.Out(), w.Len(), want)
		}
	}
}

func TestThereAndBack(t *testing.T) {
	random := rand.New(rand.NewSource(7))
	all := values()
	for range 300 {
		w := New()
		var want []byte
		list := make([]any, random.Intn(30))
		for i := range list {
			list[i] = all[random.Intn(len(all))]
			write(w, list[i])
			want = append(want, form(list[i])...)
			if !bytes.Equal(w.Out(), want) || w.Len() != len(want) {
				t.Fatalf("behind %v: % x, want % x", list[:i+1], w.Out(), want)
			}
		}
		r := Read(w.Out())
		for _, value := range list {
			got, err := read(r, kindOf(value))
			if err != nil || !bytes.Equal(form(got), form(value)) {
				t.Fatalf("%T %v is read as %v, %v", value, value, got, err)
			}
		}
		if r.Done() != nil || r.Left() != 0 || r.At() != len(want) {
			t.Fatalf("At %d of %d, Left %d, Done %v", r.At(), len(want), r.Left(), r.Done())
		}
	}
}

func TestCutShort(t *testing.T) {
	for _, value := range values() {
		whole := form(value)
		for cut := range len(whole) {
			r := Read(whole[:cut])
			if got, err := read(r, kindOf(value)); err != api.ErrShort || r.At() != 0 || !bytes.Equal(form(got), form(zero(kindOf(value)))) {
				t.Fatalf("%T % x of % x: %v, %v", value, whole[:cut], whole, got, err)
			}
		}
	}
}

// fewBytes goes over all lists of so many of these bytes.
func fewBytes(length int, alphabet []byte, see func(b []byte)) {
	b := make([]byte, length)
	var fill func(at int)
	fill = func(at int) {
		if at == length {
			see(b)
			return
		}
		for _, c := range alphabet {
			b[at] = c
			fill(at + 1)
		}
	}
	fill(0)
}

func TestEveryFewBytes(t *testing.T) {
	var every []byte
	for c := range 256 {
		every = append(every, byte(c))
	}
	hold := func(b []byte) {
		for k := range kinds {
			holdRead(t, Read(b), b, k)
		}
	}
	for length := range 3 {
		fewBytes(length, every, hold)
	}
	for length := 3; length <= 6; length++ {
		fewBytes(length, []byte{0, 1, 127, 128, 255}, hold)
	}
	// Around the tenth byte, the last that a varint may have.
	for long := 7; long <= 9; long++ {
		fewBytes(3, []byte{0, 1, 2, 127, 128, 129, 130, 255}, func(b []byte) {
			hold(append(bytes.Repeat([]byte{128}, long), b...))
			hold(append(bytes.Repeat([]byte{255}, long), b...))
		})
	}
}

// TestEveryOrderOfCalls goes over bytes of any kind by calls of any kind, on several readers and writers in turn.
func TestEveryOrderOfCalls(t *testing.T) {
	random := rand.New(rand.NewSource(8))
	all := values()
	piece := func() []byte {
		switch random.Intn(5) {
		case 0:
			b := make([]byte, random.Intn(20))
			random.Read(b)
			return b
		case 1:
			return binary.LittleEndian.AppendUint64(nil, strangeNaN[random.Intn(len(strangeNaN))])
		case 2:
			return binary.LittleEndian.AppendUint32(nil, strangeHalves[random.Intn(len(strangeHalves))])
		}
		b := form(all[random.Intn(len(all))])
		if random.Intn(4) == 0 {
			b[random.Intn(len(b))] ^= 1 << random.Intn(8)
		}
		return b
	}
	for range 500 {
		var readers []*Reader
		var wholes [][]byte
		for range 3 {
			var b []byte
			for range random.Intn(8) {
				b = append(b, piece()...)
			}
			readers, wholes = append(readers, Read(b)), append(wholes, b)
		}
		for range 60 {
			i := random.Intn(3)
			r := readers[i]
			holdRead(t, r, wholes[i][r.At():], kind(random.Intn(int(kinds))))
			if (r.Done() == nil) != (r.Left() == 0) || r.Left() > 0 && r.Done() != api.ErrTail {
				t.Fatalf("Left %d, Done %v", r.Left(), r.Done())
			}
		}
	}
}

func TestWritersApart(t *testing.T) {
	random := rand.New(rand.NewSource(9))
	all := values()
	writers := []*Writer{New(), New(), New()}
	wants := make([][]byte, len(writers))
	for range 2000 {
		i, value := random.Intn(len(writers)), all[random.Intn(len(all))]
		write(writers[i], value)
		wants[i] = append(wants[i], form(value)...)
	}
	for i, w := range writers {
		if !bytes.Equal(w.Out(), wants[i]) || w.Len() != len(wants[i]) {
			t.Errorf("writer %d has other bytes than were written on it", i)
		}
	}
	if w := New(); w.Len() != 0 || len(w.Out()) != 0 {
		t.Errorf("a new Writer has % x", w.Out())
	}
}

func TestUpto(t *testing.T) {
	limits := []int{math.MinInt, -1, 0, 1, 2, 127, 128, 1 << 20, math.MaxInt - 1, math.MaxInt}
	hold := func(b []byte) {
		for _, limit := range limits {
			r := Read(b)
			x, size, err := toldVarint(b)
			if err == nil && (limit < 0 || x > uint64(limit)) {
				x, size, err = 0, 0, api.ErrLimit
			}
			if got, gotErr := r.Upto(limit); uint64(got) != x || gotErr != err || r.At() != size {
				t.Fatalf("Upto(%d) of % x = %d, %v, At %d, want %d, %v, %d", limit, b, got, gotErr, r.At(), x, err, size)
			}
		}
	}
	for _, x := range uints() {
		if x <= math.MaxInt-1 {
			limits = append(limits[:10:10], int(x)-1, int(x), int(x)+1)
		}
		hold(form(x))
		hold(form(x)[1:])
		hold(append(form(x), 0, 1))
		hold(append(bytes.Repeat([]byte{128}, int(x%12)), 0)) // a varint that isn't the shortest is no number, whatever the limit
	}
}

func TestTextLimits(t *testing.T) {
	for _, size := range []int{0, 1, 5, 127, 128, 200} {
		b := append(form(strings.Repeat("z", size)), 'y')
		for _, limit := range []int{math.MinInt, -1, 0, size - 1, size, size + 1, math.MaxInt} {
			for _, cut := range []int{0, 1, 2, 3, len(b) - 2, len(b) - 1, len(b)} {
				if cut < 0 || cut > len(b) {
					continue
				}
				want, wantErr := told(b[:cut], textKind, limit)
				r := Read(b[:cut])
				got, err := r.Text(limit)
				if err != wantErr || r.At() != len(want) || err == nil && got != strings.Repeat("z", size) || err != nil && got != "" {
					t.Fatalf("Text(%d) of the first %d bytes of % x: %q, %v, At %d, want %v", limit, cut, b, got, err, r.At(), wantErr)
				}
			}
		}
	}
	for _, b := range []string{"\xff\xff\xff\xff\xff\xff\xff\xff\x7f", "\xff\xff\xff\xff\xff\xff\xff\xff\xff\x01"} {
		r := Read([]byte(b + "abc"))
		want := api.ErrShort
		if len(b) == 10 { // above any limit
			want = api.ErrLimit
		}
		if got, err := r.Text(math.MaxInt); got != "" || err != want || r.At() != 0 {
			t.Errorf("Text of %q: %q, %v", b, got, err)
		}
	}
}

func TestLongLists(t *testing.T) {
	list, floats := make([]complex128, api.MaxList+1), make([]float64, api.MaxList+1)
	list[api.MaxList-1], floats[api.MaxList-1] = complex(3, nan), minusZero
	w := New()
	w.Text("ahead")
	ahead := w.Out()
	if err := w.List(list); err != api.ErrLimit || !bytes.Equal(w.Out(), ahead) || w.Len() != len(ahead) {
		t.Errorf("too long a list: %v, Len %d", err, w.Len())
	}
	if err := w.Floats(floats); err != api.ErrLimit || !bytes.Equal(w.Out(), ahead) || w.Len() != len(ahead) {
		t.Errorf("too long a list of floats: %v, Len %d", err, w.Len())
	}
	list, floats = list[:api.MaxList], floats[:api.MaxList]
	if err := w.List(list); err != nil {
		t.Fatal(err)
	}
	if err := w.Floats(floats); err != nil {
		t.Fatal(err)
	}
	if want := append(append(ahead, form(list)...), form(floats)...); !bytes.Equal(w.Out(), want) {
		t.Fatal("the longest lists have other bytes")
	}
	r := Read(w.Out())
	r.Text(5)
	gotList, err := r.List()
	if err != nil || !bytes.Equal(form(gotList), form(list)) {
		t.Errorf("the longest list is read back as %d elements, %v", len(gotList), err)
	}
	gotFloats, err := r.Floats()
	if err != nil || !bytes.Equal(form(gotFloats), form(floats)) || r.Done() != nil {
		t.Errorf("the longest list of floats is read back as %d elements, %v", len(gotFloats), err)
	}
	// So many elements are told, but none is there; a greater number is refused ahead of the elements.
	for _, x := range []uint64{1, api.MaxList, api.MaxList + 1, math.MaxUint64} {
		for _, k := range []kind{listKind, floatsKind} {
			b := append(form(x), 1, 2, 3)
			holdRead(t, Read(b), b, k)
		}
	}
}

func TestEveryNaN(t *testing.T) {
	for _, b := range strangeNaN {
		f := math.Float64frombits(b)
		w := New()
		w.Float(f)
		w.Complex(complex(f, f))
		w.List([]complex128{complex(f, 1)})
		w.Floats([]float64{f})
		if bytes.Count(w.Out(), []byte("\x00\x00\x00\x00\x00\x00\xf8\x7f")) != 5 {
			t.Errorf("the NaN %x is written % x", b, w.Out())
		}
		strange, good := binary.LittleEndian.AppendUint64(nil, b), form(1.0)
		for _, c := range []struct {
			kind  kind
			bytes []byte
		}{
			{floatKind, strange}, {complexKind, slices.Concat(strange, good)}, {complexKind, slices.Concat(good, strange)},
			{listKind, slices.Concat([]byte{1}, good, strange)}, {listKind, slices.Concat([]byte{2}, good, good, strange, good)},
			{floatsKind, slices.Concat([]byte{2}, good, strange)}, {floatsKind, slices.Concat([]byte{3}, strange, good)},
		} {
			r := Read(c.bytes)
			if got, err := read(r, c.kind); err != api.ErrNumber || r.At() != 0 {
				t.Errorf("%v of % x = %v, %v, At %d", c.kind, c.bytes, got, err, r.At())
			}
		}
	}
	for _, b := range strangeHalves {
		f := math.Float32frombits(b)
		w := New()
		w.Narrow(complex(f, 0))
		w.Narrow(complex(0, f))
		if want := "\x00\x00\xc0\x7f\x00\x00\x00\x00\x00\x00\x00\x00\x00\x00\xc0\x7f"; string(w.Out()) != want {
			t.Errorf("the NaN %x is written % x", b, w.Out())
		}
		strange := binary.LittleEndian.AppendUint32(nil, b)
		for _, c := range [][]byte{append(strange, 0, 0, 0, 0), append([]byte{0, 0, 0, 0}, strange...)} {
			r := Read(c)
			if got, err := r.Narrow(); got != 0 || err != api.ErrNumber || r.At() != 0 {
				t.Errorf("Narrow of % x = %v, %v", c, got, err)
			}
		}
	}
}

// TestMemory: what is handed in isn't kept nor changed, and what is answered is the caller's.
func TestMemory(t *testing.T) {
	w := New()
	w.Text("abc")
	first := w.Out()
	second := w.Out()
	_ = append(first, 'x')
	clear(first[:cap(first)])
	w.Uint(300)
	if got, want := string(w.Out()), "\x03abc\xac\x02"; got != want {
		t.Errorf("the Writer has %q behind a write into what it answered, want %q", got, want)
	}
	if string(second) != "\x03abc" {
		t.Errorf("an earlier answer became %q", second)
	}

	backing := []byte("\x03abc\x01\x00\x00\x00\x00\x00\x00\xf0\x3f\x01\x00\x00\x00\x00\x00\x00\xf0\x3f")
	was := bytes.Clone(backing)
	r := Read(backing[:13:13])
	clear(backing)
	if s, err := r.Text(3); s != "abc" || err != nil {
		t.Errorf("the Reader sees what was written into its argument: %q, %v", s, err)
	}
	copy(backing, was)
	r, again := Read(backing[:13]), Read(backing[:13])
	r.Text(3)
	again.Text(3)
	got, _ := r.Floats()
	other, _ := again.Floats()
	clear(got[:cap(got)])
	if !slices.Equal(other, []float64{1}) || !bytes.Equal(backing, was) || again.Done() != nil {
		t.Errorf("lists of two readers share memory, or the argument was changed")
	}

	list := []complex128{1, 2, 3, 4}
	floats := []float64{1, 2, 3, 4}
	w.List(list[:2])
	w.Floats(floats[:2])
	before := w.Out()
	list[0], floats[0] = 9, 9
	if !bytes.Equal(w.Out(), before) || fmt.Sprint(list[1:], floats[1:]) != "[(2+0i) (3+0i) (4+0i)] [2 3 4]" {
		t.Errorf("a list that was handed in is kept or changed")
	}
}

func TestNothing(t *testing.T) {
	for _, b := range [][]byte{nil, {}} {
		r := Read(b)
		if r.At() != 0 || r.Left() != 0 || r.Done() != nil {
			t.Errorf("of nothing: At %d, Left %d, Done %v", r.At(), r.Left(), r.Done())
		}
		for k := range kinds {
			holdRead(t, r, nil, k)
		}
	}
}
