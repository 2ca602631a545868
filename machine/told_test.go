package machine

import (
	"encoding/binary"
	"fmt"
	"math"
	"math/rand"
	"slices"
	"strings"
	"testing"

	"timbre/api"
	"timbre/check"
	"timbre/chirp"
	"timbre/cplx"
	"timbre/direct"
	"timbre/fly"
	"timbre/listing"
	"timbre/roots"
	"timbre/steps"
)

// The chapter's words, told another way: the acts of a whole run in one list, each a table of the cells that it writes; whole lists of roots, chirps and sums rather than one of them alone.

// must is what a call of a lower layer answers beside no error.
func must[T any](x T, err error) T {
	if err != nil {
		panic(err)
	}
	return x
}

// kept lists are made once, since they are long and asked for by every act.
var (
	rootsOf  = map[int][]complex128{}
	chirpsOf = map[int][]complex128{}
	othersOf = map[[2]int][]complex128{}
)

func kept[K comparable](lists map[K][]complex128, key K, list func() ([]complex128, error)) []complex128 {
	if lists[key] == nil {
		lists[key] = must(list())
	}
	return lists[key]
}

// product is the product of complex numbers, step by step.
func product(x, y complex128) complex128 {
	a, b, c, d := real(x), imag(x), real(y), imag(y)
	p, q, r, s := float64(a*c), float64(b*d), float64(a*d), float64(b*c)
	return complex(p-q, r+s)
}

// toldAct is what act i of a step writes, the cells being as they are.
func toldAct(cells []complex128, s api.Step, i int) map[int]complex128 {
	some := func(from, jump, count int) []complex128 {
		var list []complex128
		for q := range count {
			list = append(list, cells[from+q*jump])
		}
		return list
	}
	switch s.Op {
	case api.OpGather:
		return map[int]complex128{s.Dst + i: cells[s.Src+i*s.Jump]}
	case api.OpScatter:
		return map[int]complex128{s.Dst + i*s.Jump: cells[s.Src+i]}
	case api.OpZero:
		return map[int]complex128{s.Dst + i: 0}
	case api.OpTwist:
		k := s.K * i % s.N
		if k == 0 {
			return map[int]complex128{s.Dst + i: cells[s.Dst+i]}
		}
		list := kept(rootsOf, s.N, func() ([]complex128, error) { return roots.All(s.N) })
		return map[int]complex128{s.Dst + i: product(cells[s.Dst+i], list[k])}
	case api.OpFly:
		writes := map[int]complex128{}
		for q, y := range butterfly(some(s.Dst+i, s.Jump, s.N)) {
			writes[s.Dst+i+q*s.Jump] = y
		}
		return writes
	case api.OpDirect:
		return map[int]complex128{s.Dst + i: must(direct.Forward(some(s.Src, s.Jump, s.N)))[i]}
	case api.OpChirp:
		list := kept(chirpsOf, s.N, func() ([]complex128, error) { return chirp.List(s.N) })
		return map[int]complex128{s.Dst + i: product(cells[s.Dst+i], list[i])}
	case api.OpFill:
		list := kept(othersOf, [2]int{s.N, s.Count}, func() ([]complex128, error) { return chirp.Other(s.N, s.Count) })
		return map[int]complex128{s.Dst + i: list[i]}
	case api.OpTimes:
		return map[int]complex128{s.Dst + i: product(cells[s.Dst+i], cells[s.Src+i])}
	case api.OpConj:
		return map[int]complex128{s.Dst + i: complex(real(cells[s.Dst+i]), -imag(cells[s.Dst+i]))}
	case api.OpOver:
		n := float64(s.N)
		return map[int]complex128{s.Dst + i: complex(real(cells[s.Dst+i])/n, imag(cells[s.Dst+i])/n)}
	}
	panic("no operation")
}

func butterfly(a []complex128) []complex128 {
	switch len(a) {
	case 2:
		y := fly.Two([2]complex128(a))
		return y[:]
	case 3:
		y := fly.Three([3]complex128(a))
		return y[:]
	case 4:
		y := fly.Four([4]complex128(a))
		return y[:]
	}
	y := fly.Five([5]complex128(a))
	return y[:]
}

// place is an act: the number of its step, and its own in that.
type place struct{ step, act int }

// model is what a machine is told to be.
type model struct {
	program api.Program
	acts    []place // of a whole run, and behind them the place where none is left
	cells   []complex128
	done    int
}

func newModel(p api.Program) *model {
	m := &model{program: p, cells: make([]complex128, p.Cells)}
	for i, s := range p.Steps {
		for k := range s.Count {
			m.acts = append(m.acts, place{i, k})
		}
	}
	m.acts = append(m.acts, place{len(p.Steps), 0})
	return m
}

func (m *model) left() int { return len(m.acts) - 1 - m.done }

func (m *model) load(x []complex128) {
	m.cells = slices.Concat(make([]complex128, m.program.In), x, make([]complex128, m.program.Cells-m.program.In-len(x)))
	m.done = 0
}

// run does the next act, count times, as long as there is one.
func (m *model) run(count int) int {
	did := 0
	for did < count && m.left() > 0 {
		at := m.acts[m.done]
		for c, v := range toldAct(m.cells, m.program.Steps[at.step], at.act) {
			m.cells[c] = v
		}
		m.done++
		did++
	}
	return did
}

func (m *model) out() []complex128 { return m.cells[m.program.Out:][:m.program.Length] }

// state is the machine's bytes, by layer 4's words.
func (m *model) state() []byte { return toldState(m.program, m.done, m.cells) }

func toldState(p api.Program, done int, cells []complex128) []byte {
	program := must(steps.Encode(p))
	b := binary.AppendUvarint(nil, uint64(len(program)))
	b = append(b, program...)
	b = binary.AppendUvarint(b, uint64(done))
	b = binary.AppendUvarint(b, uint64(len(cells)))
	for _, c := range cells {
		for _, f := range []float64{real(c), imag(c)} {
			if f != f {
				f = math.Float64frombits(0x7ff8000000000000)
			}
			b = binary.LittleEndian.AppendUint64(b, math.Float64bits(f))
		}
	}
	return b
}

// shown is a program, its first steps alone.
func shown(p api.Program) string {
	return fmt.Sprintf("%d, %d cells, in %d, out %d, %d steps: %+v", p.Length, p.Cells, p.In, p.Out, len(p.Steps), p.Steps[:min(len(p.Steps), 8)])
}

// program is one written by hand; its lines are parted by strokes.
func program(t *testing.T, text string) api.Program {
	t.Helper()
	p, line, err := listing.Read(strings.ReplaceAll(text, "|", "\n") + "\n")
	if err != nil {
		t.Fatal(text, line, err)
	}
	return p
}

func made(t *testing.T, p api.Program) *Machine {
	t.Helper()
	m, err := New(p)
	if err != nil || m == nil {
		t.Fatal(shown(p), err)
	}
	return m
}

func resumed(t *testing.T, p api.Program, state []byte) *Machine {
	t.Helper()
	m, err := Resume(p, state)
	if err != nil || m == nil {
		t.Fatal(shown(p), err)
	}
	return m
}

// holdMachine asks a machine everything that changes nothing.
func holdMachine(t *testing.T, m *Machine, want *model) {
	t.Helper()
	if got := m.Left(); got != want.left() {
		t.Fatalf("Left is %d, want %d, of %s", got, want.left(), shown(want.program))
	}
	if step, act := m.Place(); (place{step, act}) != want.acts[want.done] {
		t.Fatalf("Place behind %d acts is %d, %d, want %v, of %s", want.done, step, act, want.acts[want.done], shown(want.program))
	}
	out, err := m.Out()
	if want.left() > 0 && (err != api.ErrState || len(out) != 0) {
		t.Fatalf("Out is %v, %v where %d acts are left, of %s", out, err, want.left(), shown(want.program))
	}
	if want.left() == 0 && (err != nil || !cplx.SameList(out, want.out())) {
		t.Fatalf("Out is %v, %v, want %v, of %s", out, err, want.out(), shown(want.program))
	}
	if got := m.State(); !slices.Equal(got, want.state()) {
		t.Fatalf("State behind %d acts is %x, want %x, of %s", want.done, got, want.state(), shown(want.program))
	}
}

// holdRun asks for so many acts, and holds the machine behind them.
func holdRun(t *testing.T, m *Machine, want *model, acts int) {
	t.Helper()
	wantErr := error(nil)
	switch {
	case acts < 0:
		wantErr = api.ErrRange
	case want.left() == 0:
		wantErr = api.ErrDone
	}
	did := 0
	if wantErr == nil {
		did = want.run(acts)
	}
	if got, err := m.Run(acts); got != did || err != wantErr {
		t.Fatalf("Run(%d) is %d, %v, want %d, %v, of %s", acts, got, err, did, wantErr, shown(want.program))
	}
	holdMachine(t, m, want)
}

// holdLoad lays a list in, whatever its length.
func holdLoad(t *testing.T, m *Machine, want *model, x []complex128) {
	t.Helper()
	wantErr := error(nil)
	if len(x) == want.program.Length {
		want.load(x)
	} else {
		wantErr = api.ErrLength
	}
	if err := m.Load(x); err != wantErr {
		t.Fatalf("Load of %d elements is %v, want %v, of %s", len(x), err, wantErr, shown(want.program))
	}
	holdMachine(t, m, want)
}

// anyFloat is any float; odd ones (infinities, NaN of any bits, the ends of the floats) stand in some lists alone, since a NaN hides much.
func anyFloat(r *rand.Rand, odd bool) float64 {
	if odd && r.Intn(8) == 0 {
		return []float64{math.NaN(), math.Float64frombits(0xfff8000000000007), math.Inf(1), math.Inf(-1), math.MaxFloat64, 5e-324}[r.Intn(6)]
	}
	if r.Intn(8) == 0 {
		return math.Copysign(0, -float64(r.Intn(2)))
	}
	return math.Ldexp(r.Float64()-0.5, r.Intn(40)-20)
}

func anyList(r *rand.Rand, n int, odd bool) []complex128 {
	x := make([]complex128, n)
	for i := range x {
		x[i] = complex(anyFloat(r, odd), anyFloat(r, odd))
	}
	return x
}

// anyStep is any step that is good for so many cells.
func anyStep(r *rand.Rand, cells int) api.Step {
	for {
		s := api.Step{Op: 1 + r.Intn(11), Dst: r.Intn(cells), Count: 1 + r.Intn(cells)}
		src, jump := r.Intn(cells), 1+r.Intn(cells)
		switch s.Op {
		case api.OpGather, api.OpScatter:
			s.Src, s.Jump = src, jump
		case api.OpTwist:
			s.N = 1 + r.Intn(12)
			s.K = r.Intn(s.N)
		case api.OpFly:
			s.Jump, s.N = jump, 2+r.Intn(4)
		case api.OpDirect:
			s.Src, s.Jump, s.N = src, jump, 1+r.Intn(6)
		case api.OpChirp, api.OpFill, api.OpOver:
			s.N = 1 + r.Intn(6)
		case api.OpTimes:
			s.Src = src
		}
		if check.Check(api.Program{Length: 1, Cells: cells, Steps: []api.Step{s}}) == nil {
			return s
		}
	}
}

// anyProgram is any good program of a few steps.
func anyProgram(r *rand.Rand) api.Program {
	p := api.Program{Cells: 1 + r.Intn(16)}
	p.Length = 1 + r.Intn(p.Cells)
	p.In, p.Out = r.Intn(p.Cells-p.Length+1), r.Intn(p.Cells-p.Length+1)
	for range r.Intn(7) {
		p.Steps = append(p.Steps, anyStep(r, p.Cells))
	}
	return p
}
