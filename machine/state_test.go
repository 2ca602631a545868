package machine

import (
	"bytes"
	"encoding/binary"
	"math"
	"math/rand"
	"slices"
	"testing"

	"timbre/api"
	"timbre/cplx"
	"timbre/steps"
)

// refuses asks that Resume answers an error and nothing else.
func refuses(t *testing.T, p api.Program, state []byte, want error) {
	t.Helper()
	if m, err := Resume(p, state); m != nil || err != want {
		t.Fatalf("Resume is %v, want %v, of %x for %s", err, want, state, shown(p))
	}
}

// readState is what bytes say, if they are those of a machine of this program: told byte by byte, not by layer 4's Reader.
func readState(p api.Program, b []byte) (done int, cells []complex128, ok bool) {
	program := must(steps.Encode(p))
	b, ok = bytes.CutPrefix(b, append(binary.AppendUvarint(nil, uint64(len(program))), program...))
	if !ok {
		return 0, nil, false
	}
	acts := 0
	for _, s := range p.Steps {
		acts += s.Count
	}
	x, size := binary.Uvarint(b)
	if size <= 0 || size > 1 && b[size-1] == 0 || x > uint64(acts) {
		return 0, nil, false
	}
	b, ok = bytes.CutPrefix(b[size:], binary.AppendUvarint(nil, uint64(p.Cells)))
	if !ok || len(b) != 16*p.Cells {
		return 0, nil, false
	}
	var floats []float64
	for f := range slices.Chunk(b, 8) {
		bits := binary.LittleEndian.Uint64(f)
		if bits&0x7fffffffffffffff > 0x7ff0000000000000 && bits != 0x7ff8000000000000 {
			return 0, nil, false
		}
		floats = append(floats, math.Float64frombits(bits))
	}
	for i := range p.Cells {
		cells = append(cells, complex(floats[2*i], floats[2*i+1]))
	}
	return int(x), cells, true
}

// holdResume holds what Resume makes of any bytes: P19.3's last sentence, and what the machine answers.
func holdResume(t *testing.T, p api.Program, state []byte) (took bool) {
	t.Helper()
	done, cells, ok := readState(p, state)
	if !ok {
		refuses(t, p, state, api.ErrState)
		return false
	}
	m, want := resumed(t, p, state), newModel(p)
	want.done, want.cells = done, cells
	if !slices.Equal(m.State(), state) {
		t.Fatalf("State is %x, want %x, of %s", m.State(), state, shown(p))
	}
	holdMachine(t, m, want)
	holdRun(t, m, want, math.MaxInt)
	return true
}

// The bytes of a small machine, written out.
func TestBytes(t *testing.T) {
	p := program(t, "timbre 1 2 0 1|conj c2|zero d1 c1")
	m, want := made(t, p), newModel(p)
	holdLoad(t, m, want, []complex128{complex(1, math.Inf(1))})
	holdRun(t, m, want, 1)
	written := "\x0b" + "\x01\x02\x00\x01\x02" + "\x0a\x00\x02" + "\x03\x01\x01" + // the program: 11 bytes
		"\x01" + // one act is done
		"\x02" + "\x00\x00\x00\x00\x00\x00\xf0\x3f" + "\x00\x00\x00\x00\x00\x00\xf0\xff" + "\x00\x00\x00\x00\x00\x00\x00\x00" + "\x00\x00\x00\x00\x00\x00\x00\x00"
	if got := string(m.State()); got != written {
		t.Errorf("State is %x, want %x", got, written)
	}
	holdMachine(t, resumed(t, p, []byte(written)), want)
}

// Every byte of a state changed, taken away and added, and every beginning of it.
func TestSpoiltStates(t *testing.T) {
	met := map[bool]int{}
	hold := func(p api.Program, state []byte) { met[holdResume(t, p, state)]++ }
	nan := complex(math.NaN(), math.Inf(-1))
	for _, p := range []api.Program{
		program(t, "timbre 1 2 0 1|twist c2 n3 k1|times d1 c1"),
		program(t, "timbre 2 2 0 0|fly j1 c1 n2"),
		program(t, "timbre 1 1 0 0"),
		program(t, "timbre 1 1 0 0|over c1 n2|over c1 n3|conj c1"),
	} {
		for done := range len(newModel(p).acts) {
			state := toldState(p, done, slices.Repeat([]complex128{nan}, p.Cells))
			hold(p, state)
			for at := range state {
				for b := range 256 {
					hold(p, slices.Concat(state[:at], []byte{byte(b)}, state[at+1:]))
				}
				hold(p, state[:at])
				hold(p, slices.Delete(slices.Clone(state), at, at+1))
			}
			for at := range len(state) + 1 {
				for _, b := range []byte{0, 1, 2, 127, 128, 255} {
					hold(p, slices.Insert(slices.Clone(state), at, b))
				}
			}
		}
	}
	if met[true] < 1000 || met[false] < 1000 {
		t.Error("states taken and refused:", met)
	}
}

// A state's parts in other forms, and other numbers.
func TestOtherForms(t *testing.T) {
	p := program(t, "timbre 1 3 0 0|conj c3|conj c2|zero c125") // 130 acts, so that the number has one byte or two
	p.Cells = 125
	program := must(steps.Encode(p))
	cells := anyList(rand.New(rand.NewSource(22)), 125, false)
	list := toldState(p, 0, cells)[len(program)+2:]
	if len(list) != 1+16*125 {
		t.Fatal(len(list))
	}
	state := func(parts ...[]byte) []byte { return slices.Concat(parts...) }
	text := append([]byte{byte(len(program))}, program...)
	for _, c := range []struct {
		state []byte
		takes bool
	}{
		{state(text, []byte{0}, list), true},
		{state(text, []byte{127}, list), true},
		{state(text, []byte{128, 1}, list), true},
		{state(text, []byte{130, 1}, list), true},  // all acts are done
		{state(text, []byte{131, 1}, list), false}, // more than there are
		{state(text, []byte{128, 0}, list), false},
		{state(text, []byte{255, 0}, list), false},
		{state(text, []byte{130, 129, 0}, list), false},
		{state(text, bytes.Repeat([]byte{255}, 9), []byte{1}, list), false},                   // 2^64 - 1
		{state(text, []byte{130, 129}, bytes.Repeat([]byte{128}, 7), []byte{1}, list), false}, // 2^63 + 130
		{state(text, bytes.Repeat([]byte{128}, 9), []byte{2}, list), false},                   // 2^64
		{state(text, list), false},
		{state([]byte{byte(len(program)) | 128, 0}, program, []byte{0}, list), false},
		{state([]byte{byte(len(program)) + 1}, program, []byte{0}, list), false},
		{state([]byte{byte(len(program)) + 1}, program, []byte{0, 0}, list), false}, // a longer text
		{state([]byte{byte(len(program)) - 1}, program, []byte{0}, list), false},
		{state([]byte{byte(len(program)) - 1}, program[:len(program)-1], []byte{0}, list), false},
		{state(bytes.Repeat([]byte{255}, 9), []byte{1}, program, []byte{0}, list), false},
		{state(text, []byte{0}, []byte{253, 0}, list[1:]), false},
		{state(text, []byte{0}, []byte{126}, list[1:], make([]byte, 16)), false}, // one cell more
		{state(text, []byte{0}, []byte{124}, list[1:len(list)-16]), false},       // one less
		{state(text, []byte{0}, []byte{124}, list[1:]), false},
		{state(text, []byte{0}, []byte{126}, list[1:]), false},
		{state(text, []byte{0}, []byte{129, 128, 64}, list[1:]), false}, // more than a list may have
		{state(text, []byte{0}), false},
		{state(text), false},
		{nil, false},
		{[]byte{}, false},
		{[]byte{0}, false},
	} {
		if got := holdResume(t, p, c.state); got != c.takes {
			t.Errorf("Resume of %x: %t", c.state[:min(len(c.state), 40)], got)
		}
	}
}

// Each of some programs takes its own states alone.
func TestStatesOfOtherPrograms(t *testing.T) {
	texts := []string{
		"timbre 2 4 0 2|conj c2|conj d2 c2",
		"timbre 1 4 0 2|conj c2|conj d2 c2",
		"timbre 2 4 1 2|conj c2|conj d2 c2",
		"timbre 2 4 0 1|conj c2|conj d2 c2",
		"timbre 2 4 0 2|conj c2|conj d1 c2",
		"timbre 2 4 0 2|conj c2|zero d2 c2",
		"timbre 2 4 0 2|conj d2 c2|conj c2",
		"timbre 2 4 0 2|conj c4",
		"timbre 2 4 0 2|conj c2|conj d2 c2|zero c1",
		"timbre 2 4 0 2|conj c2",
		"timbre 2 4 0 2|over c2 n1|over d2 c2 n1",
		"timbre 2 4 0 2|over c2 n1|over d2 c2 n2",
		"timbre 2 5 0 2|conj c2|conj d2 c2",
		"timbre 2 4 0 2",
	}
	for i, a := range texts {
		m := made(t, program(t, a))
		m.Run(1)
		for k, b := range texts {
			if got := holdResume(t, program(t, b), m.State()); got != (i == k) {
				t.Errorf("a machine of %q from a state of %q: %t", b, a, got)
			}
		}
	}
}

// Cells that no run leaves behind are taken too.
func TestAnyCells(t *testing.T) {
	r := rand.New(rand.NewSource(23))
	for range 1000 {
		p := anyProgram(r)
		done := r.Intn(len(newModel(p).acts))
		if !holdResume(t, p, toldState(p, done, anyList(r, p.Cells, r.Intn(2) == 0))) {
			t.Fatal(shown(p))
		}
	}
}

// The bits of a NaN aren't shown.
func TestNaNsAreOne(t *testing.T) {
	p := program(t, "timbre 1 2 0 1|gather d1 j1 c1|conj c2")
	odd := complex(math.Float64frombits(0xfff8000000000001), math.Float64frombits(0x7ff0000000000001))
	a, b := made(t, p), made(t, p)
	a.Load([]complex128{odd})
	b.Load([]complex128{complex(math.NaN(), math.NaN())})
	for {
		if !slices.Equal(a.State(), b.State()) {
			t.Fatalf("%x and %x", a.State(), b.State())
		}
		if a.Left() == 0 {
			break
		}
		a.Run(1)
		b.Run(1)
	}
	x, _ := a.Out()
	y, _ := b.Out()
	if !cplx.SameList(x, y) {
		t.Error(x, y)
	}
}
