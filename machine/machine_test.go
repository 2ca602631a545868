package machine

import (
	"math"
	"math/rand"
	"slices"
	"sync"
	"testing"

	"timbre/api"
	"timbre/cplx"
)

// The examples of the chapter.
func TestExamples(t *testing.T) {
	p := program(t, "timbre 2 2 0 0|fly j1 c1 n2")
	m, want := made(t, p), newModel(p)
	holdMachine(t, m, want)
	if m.Left() != 1 {
		t.Error("Left at first", m.Left())
	}
	if step, act := m.Place(); step != 0 || act != 0 {
		t.Error("Place at first", step, act)
	}
	holdLoad(t, m, want, []complex128{1, 2})
	holdLoad(t, m, want, []complex128{1})
	ahead := m.State()
	holdRun(t, m, want, 0)
	holdRun(t, m, want, -1)
	holdRun(t, m, want, 5)
	if step, act := m.Place(); step != 1 || act != 0 || m.Left() != 0 {
		t.Error("Place and Left in the end", step, act, m.Left())
	}
	if out, err := m.Out(); err != nil || !slices.Equal(out, []complex128{3, -1}) {
		t.Error("Out", out, err)
	}
	holdRun(t, m, want, 0)
	again := resumed(t, p, ahead)
	if did, err := again.Run(1); did != 1 || err != nil {
		t.Error("Run of the resumed one", did, err)
	}
	holdMachine(t, again, want)
	holdLoad(t, m, want, []complex128{5, 5})
	if m.Left() != 1 {
		t.Error("Left behind Load", m.Left())
	}
	refuses(t, program(t, "timbre 2 2 0 0|fly j1 c1 n2|conj c1"), ahead, api.ErrState)
	refuses(t, p, append(ahead, 0), api.ErrState)
}

// What each operation does, written out: cells 1, 2, .. ahead of it and behind it.
func TestEachOperation(t *testing.T) {
	nan, inf := math.NaN(), math.Inf(1)
	minus := math.Copysign(0, -1)
	for _, c := range []struct {
		step      string
		from, out []complex128
	}{
		{"gather d1 s3 j2 c2", []complex128{1, 2, 3, 4, 5, 6}, []complex128{1, 4, 6, 4, 5, 6}},
		{"gather j2 c2", []complex128{1, 2, 3, 4}, []complex128{1, 3, 3, 4}},
		{"scatter d1 s4 j2 c2", []complex128{1, 2, 3, 4, 5, 6}, []complex128{1, 5, 3, 6, 5, 6}},
		{"zero d1 c2", []complex128{1, complex(nan, 1), complex(minus, minus), 4}, []complex128{1, 0, 0, 4}},
		{"twist d1 c3 n4 k1", []complex128{9, complex(inf, minus), complex(1, 2), complex(3, 4)}, []complex128{9, complex(inf, minus), complex(2, -1), complex(-3, -4)}},
		{"twist c3 n2", []complex128{complex(inf, 1), complex(nan, minus), 3}, []complex128{complex(inf, 1), complex(nan, minus), 3}},
		{"twist c3 n1", []complex128{complex(inf, 1), complex(nan, minus), 3}, []complex128{complex(inf, 1), complex(nan, minus), 3}},
		{"twist c2 n2 k1", []complex128{complex(inf, 0), complex(inf, 0)}, []complex128{complex(inf, 0), complex(-inf, nan)}},
		{"fly d1 j3 c2 n2", []complex128{9, 1, 2, 7, 4, 6, 8}, []complex128{9, 5, 8, 7, -3, -4, 8}},
		{"fly d1 j1 c1 n4", []complex128{9, 1, 2, 3, 4, 8}, []complex128{9, 10, complex(-2, 2), -2, complex(-2, -2), 8}},
		{"direct s2 j2 c2 n2", []complex128{9, 9, 1, 9, 2}, []complex128{3, -1, 1, 9, 2}},
		{"direct d4 j1 c3 n4", []complex128{1, 2, 3, 4, 9, 9, 9, 9}, []complex128{1, 2, 3, 4, 10, complex(-2, 2), -2, 9}},
		{"chirp d1 c2 n2", []complex128{9, complex(1, 2), complex(3, 4), 8}, []complex128{9, complex(1, 2), complex(4, -3), 8}},
		{"chirp c1 n1", []complex128{complex(minus, inf)}, []complex128{complex(nan, inf)}},
		{"fill d1 c4 n2", []complex128{9, 9, 9, 9, 9, 9}, []complex128{9, complex(1, minus), 1i, 0, 1i, 9}},
		{"fill c5 n1", []complex128{9, 9, 9, 9, 9}, []complex128{complex(1, minus), 0, 0, 0, 0}},
		{"fill c1 n1", []complex128{9}, []complex128{complex(1, minus)}},
		{"times d1 s3 c2", []complex128{9, complex(inf, 0), complex(1, 2), 1i, complex(3, 4)}, []complex128{9, complex(nan, inf), complex(-5, 10), 1i, complex(3, 4)}},
		{"times c2", []complex128{3, 1i}, []complex128{9, -1}},
		{"conj d1 c2", []complex128{9, complex(1, 0), complex(2, -inf), 8}, []complex128{9, complex(1, minus), complex(2, inf), 8}},
		{"over d1 c2 n4", []complex128{9, complex(1, minus), complex(2, inf), 8}, []complex128{9, complex(0.25, minus), complex(0.5, inf), 8}},
		{"over c1 n3", []complex128{complex(1, 5)}, []complex128{complex(1.0/3, 5.0/3)}},
	} {
		p := program(t, "timbre 1 1 0 0|"+c.step)
		p.Length, p.Cells = len(c.from), len(c.from)
		m, want := made(t, p), newModel(p)
		holdLoad(t, m, want, c.from)
		holdRun(t, m, want, math.MaxInt)
		if out, err := m.Out(); err != nil || !cplx.SameList(out, c.out) {
			t.Errorf("%s makes %v, %v of %v, want %v", c.step, out, err, c.from, c.out)
		}
	}
}

// A list is laid in from In on, all other cells are noughts, and the answer stands from Out on.
func TestInAndOut(t *testing.T) {
	p := program(t, "timbre 2 6 3 1|conj d2 c2")
	m, want := made(t, p), newModel(p)
	holdMachine(t, m, want)
	holdLoad(t, m, want, []complex128{1i, 2i})
	holdRun(t, m, want, 2)
	minus := math.Copysign(0, -1)
	if out, err := m.Out(); err != nil || !cplx.SameList(out, []complex128{0, complex(0, minus)}) {
		t.Error(out, err)
	}
	if !slices.Equal(m.State(), toldState(p, 2, []complex128{0, 0, complex(0, minus), complex(0, -1), 2i, 0})) {
		t.Errorf("%x", m.State())
	}
	holdLoad(t, m, want, []complex128{7, 8}) // nothing of the run stays
	if !slices.Equal(m.State(), toldState(p, 0, []complex128{0, 0, 0, 7, 8, 0})) {
		t.Errorf("%x", m.State())
	}
}

// A program without steps has its answer at once.
func TestNoSteps(t *testing.T) {
	p := program(t, "timbre 2 3 0 1")
	m, want := made(t, p), newModel(p)
	holdMachine(t, m, want)
	for _, acts := range []int{0, 1, -1, math.MaxInt, math.MinInt} {
		holdRun(t, m, want, acts)
	}
	holdLoad(t, m, want, []complex128{1, 2})
	if out, err := m.Out(); err != nil || !slices.Equal(out, []complex128{2, 0}) {
		t.Error(out, err)
	}
	holdMachine(t, resumed(t, p, m.State()), want)
}

// P19.1: any calls in any order, on machines that go on and on those that are taken up from them.
func TestAnyCalls(t *testing.T) {
	r := rand.New(rand.NewSource(19))
	met := map[string]int{}
	for range 3000 {
		p := anyProgram(r)
		m, want := made(t, p), newModel(p)
		odd := r.Intn(3) == 0
		for range 12 {
			switch r.Intn(7) {
			case 0:
				holdLoad(t, m, want, anyList(r, p.Length, odd))
				met["load"]++
			case 1:
				holdLoad(t, m, want, anyList(r, p.Length+1-2*r.Intn(2), odd))
				met["refused load"]++
			case 2:
				holdRun(t, m, want, []int{-1, math.MinInt, math.MaxInt, want.left(), want.left() + 1}[r.Intn(5)])
				met["end"]++
			case 3:
				m = resumed(t, p, m.State())
				holdMachine(t, m, want)
				met["resumed"]++
			default:
				if want.left() == 0 {
					met["done"]++
				}
				holdRun(t, m, want, r.Intn(9))
				met["run"]++
			}
		}
	}
	for _, what := range []string{"load", "refused load", "end", "resumed", "done", "run"} {
		if met[what] < 500 {
			t.Error("too few of", what, met)
		}
	}
}

// Programs that layer 18 refuses.
func TestBadPrograms(t *testing.T) {
	good := program(t, "timbre 2 4 0 2|gather d2 j1 c2|fly d2 j1 c1 n2")
	state := made(t, good).State()
	for _, spoil := range []func(p *api.Program){
		func(p *api.Program) { p.Length = 0 },
		func(p *api.Program) { p.Length = 5 },
		func(p *api.Program) { p.Cells = 3 },
		func(p *api.Program) { p.Cells = 262145 },
		func(p *api.Program) { p.In = 3 },
		func(p *api.Program) { p.In = -1 },
		func(p *api.Program) { p.Out = 3 },
		func(p *api.Program) { p.Out = math.MaxInt },
		func(p *api.Program) { p.Steps[0].Dst = 1; p.Steps[0].Src = 2 }, // an act reads what another one writes
		func(p *api.Program) { p.Steps[1].Dst = 3 },
		func(p *api.Program) { p.Steps[1].N = 6 },
		func(p *api.Program) { p.Steps[1].K = 1 },
		func(p *api.Program) { p.Steps[0].Op = 0 },
		func(p *api.Program) { p.Steps[0].Op = 12 },
		func(p *api.Program) { p.Steps = append(p.Steps, api.Step{}) },
		func(p *api.Program) { p.Steps = slices.Repeat(p.Steps[1:], 65537) },
		func(p *api.Program) {
			p.Cells = 262144
			p.Steps = append(slices.Repeat([]api.Step{{Op: api.OpZero, Count: 262144}}, 256), p.Steps...)
		},
	} {
		p := good
		p.Steps = slices.Clone(good.Steps)
		spoil(&p)
		if m, err := New(p); m != nil || err != api.ErrProgram {
			t.Errorf("New is %v of %s", err, shown(p))
		}
		refuses(t, p, state, api.ErrProgram)
		refuses(t, p, nil, api.ErrProgram)
	}
}

// Nothing that is handed in is kept or changed, and nothing that is handed out is kept, spare room included.
func TestMemory(t *testing.T) {
	r := rand.New(rand.NewSource(20))
	for range 300 {
		p := anyProgram(r)
		p.Steps = slices.Grow(p.Steps, 1)
		own := p
		own.Steps = slices.Clone(p.Steps)
		m, want := made(t, p), newModel(own)
		x := append(anyList(r, p.Length, false), 7)[:p.Length]
		before := slices.Clone(x[:p.Length+1])
		holdLoad(t, m, want, x)
		if !cplx.SameList(x[:p.Length+1], before) {
			t.Fatal("Load changed its list")
		}
		state := append(m.State(), 9)
		bytes := slices.Clone(state)
		again := resumed(t, p, state[:len(state)-1])
		if !slices.Equal(state, bytes) || !slices.Equal(p.Steps, own.Steps) {
			t.Fatal("Resume changed what it was given")
		}
		spoil(p.Steps, api.Step{Op: 77})
		spoil(x, 1e9)
		spoil(state, 255)
		spoil(m.State(), 255)
		holdMachine(t, m, want)
		holdMachine(t, again, want)
		model := *want
		model.cells = slices.Clone(want.cells)
		holdRun(t, m, want, math.MaxInt)
		out, _ := m.Out()
		spoil(out, 1e9)
		holdMachine(t, m, want)
		holdMachine(t, again, &model)
		holdRun(t, again, &model, math.MaxInt)
	}
}

// spoil writes into a list, spare room included.
func spoil[T any](list []T, with T) {
	list = list[:cap(list)]
	for i := range list {
		list[i] = with
	}
}

// Machines of one program share nothing: each may be another goroutine's.
func TestMachinesAlone(t *testing.T) {
	p := program(t, "timbre 3 16 0 13|chirp c3 n3|gather d4 j1 c3|fill d4 c8 n3|twist c8 n7 k3|fly j4 c2 n3|direct d12 j1 c3 n4|over c15 n3|gather d13 j1 c3")
	r := rand.New(rand.NewSource(21))
	state := made(t, p).State()
	var all sync.WaitGroup
	for range 8 {
		x := anyList(r, 3, false)
		want := newModel(p)
		want.load(x)
		want.run(math.MaxInt)
		all.Go(func() {
			m := must(Resume(p, state))
			for range 50 {
				m.Load(x)
				for m.Left() > 0 {
					m.Run(1 + m.Left()/3)
				}
				if out, err := m.Out(); err != nil || !cplx.SameList(out, want.out()) {
					t.Errorf("Out is %v, %v, want %v", out, err, want.out())
					return
				}
			}
		})
	}
	all.Wait()
}
