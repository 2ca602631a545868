package machine

import (
	"math"
	"math/rand"
	"slices"
	"testing"

	"timbre/api"
	"timbre/cplx"
)

// holdCells compares some of the cells with what one step is told to make of them.
func holdCells(t *testing.T, m *Machine, before []complex128, s api.Step, acts ...int) {
	t.Helper()
	p := api.Program{Length: 1, Cells: len(before), Steps: []api.Step{s}}
	_, cells, ok := readState(p, m.State())
	if !ok {
		t.Fatalf("no state of %+v", s)
	}
	for _, i := range acts {
		for c, want := range toldAct(before, s, i) {
			if !cplx.Same(cells[c], want) {
				t.Fatalf("act %d of %+v makes %v of cell %d, want %v", i, s, cells[c], c, want)
			}
		}
	}
}

// Steps with the greatest fields.
func TestGreatestSteps(t *testing.T) {
	const most = 262144
	before := anyList(rand.New(rand.NewSource(29)), most, false)
	for _, s := range []api.Step{
		{Op: api.OpTwist, Count: most, N: 16384, K: 16383},
		{Op: api.OpTwist, Count: most, N: 16381, K: 16380},
		{Op: api.OpOver, Count: most, N: 16384},
		{Op: api.OpConj, Count: most},
		{Op: api.OpZero, Count: most},
		{Op: api.OpTimes, Count: most},
		{Op: api.OpTimes, Src: most / 2, Count: most / 2},
		{Op: api.OpGather, Dst: 1, Src: most - 1, Jump: most, Count: 1},
		{Op: api.OpGather, Jump: 511, Src: 600, Count: 512},
		{Op: api.OpScatter, Dst: most - 1, Jump: most, Count: 1},
		{Op: api.OpScatter, Dst: 600, Jump: 511, Count: 512},
		{Op: api.OpFly, Jump: most / 2, Count: most / 2, N: 2},
		{Op: api.OpFly, Jump: most / 5, Count: most / 5, N: 5},
		{Op: api.OpDirect, Src: 64, Jump: 4159, Count: 64, N: 64},
		{Op: api.OpDirect, Dst: most - 64, Src: 1, Jump: 4159, Count: 63, N: 64},
		{Op: api.OpChirp, Dst: most - 16384, Count: 16384, N: 16384},
		{Op: api.OpChirp, Count: 16381, N: 16381},
		{Op: api.OpFill, Count: 16384, N: 8192},
		{Op: api.OpFill, Count: 16383, N: 8192},
		{Op: api.OpFill, Dst: most - 16384, Count: 16384, N: 3000},
	} {
		p := api.Program{Length: 1, Cells: most, Steps: []api.Step{s}}
		m := resumed(t, p, toldState(p, 0, before))
		if did, err := m.Run(math.MaxInt); did != s.Count || err != nil {
			t.Fatalf("Run of %+v: %d, %v", s, did, err)
		}
		var acts []int
		for i := 0; i < s.Count; i += 1 + s.Count/1500 {
			acts = append(acts, i)
		}
		holdCells(t, m, before, s, append(acts, s.Count-1)...)
	}
}

// A list of Bluestein's way that is filled act by act.
func TestLongFill(t *testing.T) {
	s := api.Step{Op: api.OpFill, Count: 16384, N: 8192}
	p := api.Program{Length: 16384, Cells: 16384, Steps: []api.Step{s}}
	m := made(t, p)
	for m.Left() > 0 {
		m.Run(1)
	}
	want := newModel(p)
	want.run(math.MaxInt)
	holdMachine(t, m, want)
}

// A program of MaxSteps steps, act by act.
func TestMostSteps(t *testing.T) {
	p := api.Program{Length: 2, Cells: 3, Steps: slices.Repeat([]api.Step{{Op: api.OpOver, Count: 1, N: 2}, {Op: api.OpConj, Dst: 1, Count: 2}}, 32768)}
	m, want := made(t, p), newModel(p)
	x := []complex128{complex(1, -3), complex(5, 7)}
	m.Load(x)
	want.load(x)
	for m.Left() > 40000 {
		m.Run(1)
		want.run(1)
		if step, act := m.Place(); (place{step, act}) != want.acts[want.done] {
			t.Fatal(step, act, want.acts[want.done])
		}
	}
	holdMachine(t, m, want)
	m = resumed(t, p, m.State())
	holdMachine(t, m, want)
	holdRun(t, m, want, 50000)
	holdMachine(t, resumed(t, p, m.State()), want)
}

// A program of MaxActs acts.
func TestMostActs(t *testing.T) {
	p := api.Program{Length: 2, Cells: 262144, In: 262142, Out: 262142, Steps: slices.Repeat([]api.Step{{Op: api.OpConj, Count: 262144}}, 256)}
	m := made(t, p)
	x := []complex128{complex(1, 2), complex(3, 4)}
	m.Load(x)
	pieces := []int{1, 67108861, 1 << 40, 1}
	left, did := 67108864, []int{1, 67108861, 2, 0}
	for i, acts := range pieces {
		want := error(nil)
		if did[i] == 0 {
			want = api.ErrDone
		}
		got, err := m.Run(acts)
		left -= did[i]
		if got != did[i] || err != want || m.Left() != left {
			t.Fatalf("Run(%d) is %d, %v, Left %d, want %d, %v, %d", acts, got, err, m.Left(), did[i], want, left)
		}
		again := resumed(t, p, m.State())
		a, b := m.Place()
		c, d := again.Place()
		if a != c || b != d || again.Left() != left {
			t.Fatalf("behind %d acts: %d, %d, resumed at %d, %d, Left %d", 67108864-left, a, b, c, d, again.Left())
		}
		m = again
	}
	if out, err := m.Out(); err != nil || !cplx.SameList(out, x) {
		t.Error(out, err)
	}
}
