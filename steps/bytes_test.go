package steps

import (
	"bytes"
	"encoding/binary"
	"math"
	"math/rand"
	"slices"
	"testing"

	"timbre/api"
)

// sequence is the numbers of which a program's bytes are the varints, by the chapter's words.
func sequence(p api.Program) []uint64 {
	out := []uint64{uint64(p.Length), uint64(p.Cells), uint64(p.In), uint64(p.Out), uint64(len(p.Steps))}
	for _, s := range p.Steps {
		out = append(out, uint64(s.Op))
		for _, letter := range []byte(letters[s.Op]) {
			out = append(out, uint64(*field(&s, letter)))
		}
	}
	return out
}

func varints(list []uint64) []byte {
	var out []byte
	for _, x := range list {
		out = binary.AppendUvarint(out, x)
	}
	return out
}

// toldProgram is whether a program is in form.
func toldProgram(p api.Program) bool {
	for _, x := range []int{p.Length, p.Cells, p.In, p.Out} {
		if x < 0 || x > cells {
			return false
		}
	}
	return len(p.Steps) <= steps && !slices.ContainsFunc(p.Steps, func(s api.Step) bool { return !told(s) })
}

// toldDecode is the program of these bytes, and whether there is one: it reads what may be one, and writes that again.
func toldDecode(b []byte) (api.Program, bool) {
	rest := b
	next := func() int {
		x, size := binary.Uvarint(rest)
		if size <= 0 || x > math.MaxInt {
			rest = nil
			return -1
		}
		rest = rest[size:]
		return int(x)
	}
	p := api.Program{Length: next(), Cells: next(), In: next(), Out: next()}
	count := next()
	for range count {
		s := api.Step{Op: next()}
		if s.Op < 1 || s.Op > 11 {
			return api.Program{}, false
		}
		for _, letter := range []byte(letters[s.Op]) {
			*field(&s, letter) = next()
		}
		p.Steps = append(p.Steps, s)
	}
	if !toldProgram(p) || !bytes.Equal(varints(sequence(p)), b) {
		return api.Program{}, false
	}
	return p, true
}

func alike(a, b api.Program) bool {
	return a.Length == b.Length && a.Cells == b.Cells && a.In == b.In && a.Out == b.Out && slices.Equal(a.Steps, b.Steps)
}

// holdDecode holds Decode of these bytes against what is told, and what it takes against Encode.
func holdDecode(t *testing.T, b []byte) bool {
	t.Helper()
	want, good := toldDecode(b)
	got, err := Decode(b)
	if !good {
		if err != api.ErrProgram || !alike(got, api.Program{}) {
			t.Fatalf("Decode(% x) = %+v, %v, want ErrProgram", b, got, err)
		}
		return false
	}
	if err != nil || !alike(got, want) {
		t.Fatalf("Decode(% x) = %+v, %v, want %+v", b, got, err, want)
	}
	if again, err := Encode(got); err != nil || !bytes.Equal(again, b) {
		t.Fatalf("Encode(Decode(% x)) = % x, %v", b, again, err)
	}
	return true
}

func refusesDecode(t *testing.T, what string, b []byte) {
	t.Helper()
	if p, err := Decode(b); err != api.ErrProgram || !alike(p, api.Program{}) {
		t.Fatalf("%s: Decode(% x) = %+v, %v", what, b, p, err)
	}
}

// holdEncode holds Encode of a program in form against what is told, and takes it back.
func holdEncode(t *testing.T, p api.Program) []byte {
	t.Helper()
	b, err := Encode(p)
	if err != nil || !bytes.Equal(b, varints(sequence(p))) {
		t.Fatalf("Encode(%+v) = % x, %v", p, b, err)
	}
	got, err := Decode(b)
	if err != nil || !alike(got, p) || !Same(got, p) {
		t.Fatalf("Decode(Encode(%+v)) = %+v, %v", p, got, err)
	}
	return b
}

func refusesEncode(t *testing.T, what string, p api.Program) {
	t.Helper()
	if b, err := Encode(p); err != api.ErrProgram || len(b) != 0 {
		t.Fatalf("%s: Encode = % x, %v", what, b, err)
	}
}

// sample is a program in form with a step of each operation.
func sample() api.Program {
	p := api.Program{Length: 1, Cells: 130, In: 2, Out: cells}
	for op := 1; op <= 11; op++ {
		p.Steps = append(p.Steps, middle(op))
	}
	return p
}

// anyProgram is one in form of up to so many steps.
func anyProgram(r *rand.Rand, most int) api.Program {
	head := func() int { return r.Intn(cells+1) >> r.Intn(19) }
	p := api.Program{Length: head(), Cells: head(), In: head(), Out: head()}
	for range r.Intn(most + 1) {
		p.Steps = append(p.Steps, anyStep(r))
	}
	return p
}

func anyStep(r *rand.Rand) api.Step {
	for {
		s := api.Step{Op: 1 + r.Intn(11)}
		for _, letter := range []byte(letters[s.Op]) {
			*field(&s, letter) = r.Intn(cells+1) >> r.Intn(19)
		}
		if told(s) {
			return s
		}
	}
}

func TestBytesOfExample(t *testing.T) {
	p := api.Program{Length: 1, Cells: 1, Steps: []api.Step{{Op: api.OpZero, Count: 1}}}
	want := []byte{1, 1, 0, 0, 1, 3, 0, 1}
	if b, err := Encode(p); err != nil || !bytes.Equal(b, want) {
		t.Errorf("Encode = % x, %v", b, err)
	}
	if got, err := Decode(want); err != nil || !alike(got, p) {
		t.Errorf("Decode = %+v, %v", got, err)
	}
	if b, err := Encode(api.Program{}); err != nil || !bytes.Equal(b, make([]byte, 5)) {
		t.Errorf("Encode of nothing = % x, %v", b, err)
	}
}

func TestBytesOfEachOperation(t *testing.T) {
	for op, want := range [][]byte{
		api.OpGather:  {1, 0xac, 2, 0xf4, 3, 7, 3},
		api.OpScatter: {2, 0xac, 2, 0xf4, 3, 7, 3},
		api.OpZero:    {3, 0xac, 2, 3},
		api.OpTwist:   {4, 0xac, 2, 3, 4, 2},
		api.OpFly:     {5, 0xac, 2, 7, 3, 4},
		api.OpDirect:  {6, 0xac, 2, 0xf4, 3, 7, 3, 4},
		api.OpChirp:   {7, 0xac, 2, 3, 4},
		api.OpFill:    {8, 0xac, 2, 9, 4},
		api.OpTimes:   {9, 0xac, 2, 0xf4, 3, 3},
		api.OpConj:    {10, 0xac, 2, 3},
		api.OpOver:    {11, 0xac, 2, 3, 4},
	} {
		if op == 0 {
			continue
		}
		p := api.Program{Length: 5, Cells: 6, In: 7, Out: 8, Steps: []api.Step{middle(op)}}
		if b := holdEncode(t, p); !bytes.Equal(b, append([]byte{5, 6, 7, 8, 1}, want...)) {
			t.Errorf("%s: % x", names[op], b)
		}
		for _, s := range some(op) {
			holdEncode(t, api.Program{Steps: []api.Step{s, middle(op), s}})
		}
	}
}

// TestThereAndBack is P15.2 over any programs: cut anywhere, and with anything behind them, they are refused.
func TestThereAndBack(t *testing.T) {
	r := rand.New(rand.NewSource(15))
	for range 2000 {
		p := anyProgram(r, 12)
		b := holdEncode(t, p)
		for end := range b {
			refusesDecode(t, "cut", b[:end])
		}
		for x := range 256 {
			refusesDecode(t, "longer", append(slices.Clone(b), byte(x)))
		}
		refusesDecode(t, "twice", append(slices.Clone(b), b...))
		refusesDecode(t, "one step more", append(slices.Clone(b), varints(sequence(api.Program{Steps: []api.Step{anyStep(r)}}))[5:]...))
	}
}

func TestSpoiltBytes(t *testing.T) {
	b := holdEncode(t, sample())
	taken := 0
	for i := range b {
		for x := range 256 {
			other := slices.Clone(b)
			other[i] = byte(x)
			if holdDecode(t, other) {
				taken++
			}
			holdDecode(t, slices.Insert(slices.Clone(b), i, byte(x)))
		}
		holdDecode(t, slices.Delete(slices.Clone(b), i, i+1))
	}
	if taken < 1000 {
		t.Errorf("only %d of the spoilt programs are good", taken)
	}
	r := rand.New(rand.NewSource(16))
	for range 50000 {
		b := holdEncode(t, anyProgram(r, 3))
		for range 1 + r.Intn(3) {
			b[r.Intn(len(b))] = []byte{0, 1, 2, 3, 5, 8, 11, 12, 64, 127, 128, 129, 255, byte(r.Intn(256))}[r.Intn(14)]
		}
		holdDecode(t, b)
	}
}

// overBytes goes over all lists of up to so many of these bytes behind those of first.
func overBytes(first, of []byte, most int, do func([]byte)) {
	do(first)
	if most == 0 {
		return
	}
	for _, x := range of {
		overBytes(append(slices.Clone(first), x), of, most-1, do)
	}
}

func TestShortBytes(t *testing.T) {
	good := 0
	count := func(b []byte) {
		if holdDecode(t, b) {
			good++
		}
	}
	overBytes(nil, []byte{0, 1, 3, 127, 128, 255}, 7, count)
	overBytes([]byte{2, 2, 0, 0, 1}, []byte{0, 1, 2, 3, 4, 5, 6, 7, 8, 9, 10, 11, 12, 64, 65, 127, 128}, 4, count)
	overBytes([]byte{2, 2, 0, 0, 1, 6}, []byte{0, 1, 2, 64, 65, 128}, 6, count)
	overBytes([]byte{2, 2, 0, 0, 2, 3, 0, 1}, []byte{0, 1, 2, 3, 4, 10, 11, 12, 128}, 5, count)
	if good < 1000 {
		t.Errorf("only %d of them are programs", good)
	}
	for first := range 256 {
		for second := range 256 {
			for _, head := range [][]byte{nil, {0, 0, 0}, {0, 0, 0, 0}, {0, 0, 0, 0, 1, 3}, {0, 0, 0, 0, 1, 3, 0}, {0, 0, 0, 0, 1, 4, 0, 1}} {
				holdDecode(t, append(slices.Clone(head), byte(first), byte(second)))
			}
		}
	}
}

// TestOtherVarints puts another varint into each place of a program's bytes: longer forms, and numbers that wrap round to the one that was there.
func TestOtherVarints(t *testing.T) {
	list := sequence(sample())
	for i, x := range list {
		first, last := varints(list[:i]), varints(list[i+1:])
		with := func(middle []byte) []byte { return slices.Concat(first, middle, last) }
		if !holdDecode(t, with(binary.AppendUvarint(nil, x))) {
			t.Fatal("the program itself is refused")
		}
		for _, more := range []uint64{1 << 18, 1 << 19, 1 << 31, 1 << 32, 1 << 62, 1 << 63} {
			refusesDecode(t, "a number that wraps round", with(binary.AppendUvarint(nil, x+more)))
		}
		refusesDecode(t, "the greatest number", with(binary.AppendUvarint(nil, math.MaxUint64)))
		for size := 1; size <= 11; size++ {
			long := binary.AppendUvarint(nil, x)
			long[len(long)-1] |= 128
			for range size - 1 {
				long = append(long, 128)
			}
			refusesDecode(t, "a longer form", with(append(long, 0)))
			holdDecode(t, with(append(long, 2))) // more bits: another number, if any
		}
	}
}

func TestHeads(t *testing.T) {
	for i := range 4 {
		for _, x := range []int{0, 1, 127, 128, inner, inner + 1, cells - 1, cells} {
			p := sample()
			*[]*int{&p.Length, &p.Cells, &p.In, &p.Out}[i] = x
			holdEncode(t, p)
		}
		for _, x := range []int{math.MinInt, math.MinInt + 1, -1 << 32, -cells, -1, cells + 1, 1 << 32, 1<<32 + 1, math.MaxInt} {
			p := sample()
			*[]*int{&p.Length, &p.Cells, &p.In, &p.Out}[i] = x
			refusesEncode(t, "a head", p)
			refusesDecode(t, "a head", varints(sequence(p)))
		}
	}
}

// TestStepsOutOfForm puts a step that isn't in form into each place.
func TestStepsOutOfForm(t *testing.T) {
	for place := range sample().Steps {
		op := place + 1
		for _, letter := range []byte(all) {
			for _, x := range slices.Concat(edges(letter), []int{3, 7, 1 << 32}) {
				p := sample()
				s := &p.Steps[place]
				*field(s, letter) = x
				if told(*s) {
					holdEncode(t, p)
					continue
				}
				refusesEncode(t, names[op], p)
				if slices.Contains([]byte(letters[op]), letter) {
					refusesDecode(t, names[op], varints(sequence(p)))
				}
			}
		}
		for _, other := range strange {
			p := sample()
			p.Steps[place].Op = other
			refusesEncode(t, "no operation", p)
			list := sequence(api.Program{Steps: sample().Steps[place : place+1]})
			list[5] = uint64(other)
			refusesDecode(t, "no operation", varints(list))
		}
	}
}

func TestMostSteps(t *testing.T) {
	r := rand.New(rand.NewSource(17))
	var list []api.Step
	for range steps + 1 {
		list = append(list, anyStep(r))
	}
	b := holdEncode(t, api.Program{Length: 3, Cells: cells, Steps: list[:steps]})
	refusesDecode(t, "cut", b[:len(b)-1])
	holdEncode(t, api.Program{Steps: list[:steps-1]})
	over := api.Program{Length: 3, Cells: cells, Steps: list}
	if b, err := Encode(over); err != api.ErrProgram || len(b) != 0 {
		t.Errorf("Encode of too many steps: %d bytes, %v", len(b), err)
	}
	if p, err := Decode(varints(sequence(over))); err != api.ErrProgram || len(p.Steps) != 0 {
		t.Errorf("Decode of too many steps: %d steps, %v", len(p.Steps), err)
	}
	list[steps-1] = api.Step{Op: api.OpZero}
	if b, err := Encode(api.Program{Steps: list[:steps]}); err != api.ErrProgram || len(b) != 0 {
		t.Errorf("Encode with a wrong last step: %d bytes, %v", len(b), err)
	}
	refusesDecode(t, "many steps told, none there", varints([]uint64{0, 0, 0, 0, steps}))
}

// TestNothingIsShared is rule 5.
func TestNothingIsShared(t *testing.T) {
	room := make([]api.Step, 20)
	for i := range room {
		room[i] = middle(1 + i%11)
	}
	before := slices.Clone(room)
	p := api.Program{Length: 1, Cells: 2, In: 3, Out: 4, Steps: room[:11]}
	first := holdEncode(t, p)
	second := holdEncode(t, p)
	clear(first[:cap(first)])
	if !bytes.Equal(second, varints(sequence(p))) {
		t.Error("two answers of Encode share memory")
	}
	bytesRoom := append(slices.Clone(second), "spare"...)
	given := bytesRoom[:len(second)]
	a, _ := Decode(given)
	b, _ := Decode(given)
	clear(a.Steps[:cap(a.Steps)])
	if !bytes.Equal(bytesRoom, append(slices.Clone(second), "spare"...)) {
		t.Error("Decode changed its argument")
	}
	clear(bytesRoom)
	if !alike(b, p) || !slices.Equal(room, before) {
		t.Error("an answer of Decode shares memory, or an argument was changed")
	}
}
