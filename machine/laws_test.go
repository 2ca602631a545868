package machine

import (
	"math"
	"math/rand"
	"slices"
	"testing"

	"timbre/api"
	"timbre/check"
	"timbre/compile"
	"timbre/cplx"
	"timbre/direct"
	"timbre/order"
	"timbre/planner"
	"timbre/sums"
)

var ways = []int{api.Deep, api.Wide}

// somePrograms are hand-made ones with steps of all kinds, compiled ones in both ways, and any others.
func somePrograms(t *testing.T) []api.Program {
	t.Helper()
	all := []api.Program{
		program(t, "timbre 3 16 0 13|chirp c3 n3|gather d4 j1 c3|fill d4 c8 n3|twist c8 n7 k3|fly j4 c2 n3|direct d12 j1 c3 n4|over c15 n3|gather d13 j1 c3"),
		program(t, "timbre 4 20 2 4|times d3 s8 c5|scatter d1 s12 j3 c4|conj d2 c9|zero d5 c2|fly d1 j3 c3 n5|times c20|twist d2 c18 n16 k15"),
		program(t, "timbre 1 1 0 0|conj c1|over c1 n16384|times c1|zero c1"),
	}
	for _, s := range []string{"d1", "d5", "f5", "(f2 x d3)", "(d2 x (f3 x f2))", "b2(f4)", "b5((f3 x f3))", "(f2 x b3((f2 x f3)))", "b3(b5((d3 x f3)))"} {
		o, _, err := order.Parse(s)
		if err != nil {
			t.Fatal(s, err)
		}
		for _, way := range ways {
			all = append(all, must(compile.Program(o, way)))
		}
	}
	r := rand.New(rand.NewSource(24))
	for range 60 {
		all = append(all, anyProgram(r))
	}
	return all
}

// P19.2: behind the same number of acts the cells are alike, however the run is cut, and so is the answer.
func TestInPieces(t *testing.T) {
	r := rand.New(rand.NewSource(25))
	for _, p := range somePrograms(t) {
		x := anyList(r, p.Length, r.Intn(3) == 0)
		want := newModel(p)
		want.load(x)
		states := [][]byte{want.state()}
		for want.run(1) > 0 {
			states = append(states, want.state())
		}
		acts := len(states) - 1
		holdCut := func(next func(left int) int) {
			t.Helper()
			m := made(t, p)
			m.Load(x)
			at := 0
			for at < acts {
				did, err := m.Run(next(acts - at))
				at += did
				if err != nil || !slices.Equal(m.State(), states[at]) {
					t.Fatalf("behind %d acts, %v, the state is another one: %s", at, err, shown(p))
				}
			}
			if out, err := m.Out(); err != nil || !cplx.SameList(out, want.out()) {
				t.Fatalf("Out is %v, %v, want %v, of %s", out, err, want.out(), shown(p))
			}
		}
		for size := 1; size <= acts+1; size += 1 + size/4 {
			holdCut(func(int) int { return size })
		}
		for first := range acts + 1 { // in two pieces, cut anywhere
			piece := first
			holdCut(func(left int) int {
				now := piece
				piece = left
				return now
			})
		}
		growing := 0
		holdCut(func(int) int { growing++; return growing })
		for range 5 {
			holdCut(func(left int) int { return r.Intn(left + 1) })
		}
	}
}

// P19.3: a machine that is taken up again answers every call as the one that was saved does, at each place.
func TestTakenUpAgain(t *testing.T) {
	r := rand.New(rand.NewSource(26))
	for _, p := range somePrograms(t) {
		m, want := made(t, p), newModel(p)
		holdLoad(t, m, want, anyList(r, p.Length, r.Intn(3) == 0))
		for {
			state := m.State()
			again := resumed(t, p, state)
			if !slices.Equal(again.State(), state) {
				t.Fatalf("the states differ behind %d acts of %s", want.done, shown(p))
			}
			there := *want
			there.cells = slices.Clone(want.cells)
			holdMachine(t, again, &there)
			holdRun(t, again, &there, r.Intn(5))
			holdRun(t, again, &there, -1)
			holdRun(t, again, &there, math.MaxInt)
			holdRun(t, again, &there, 1)
			holdLoad(t, again, &there, anyList(r, p.Length, false))
			if want.left() == 0 {
				break
			}
			holdRun(t, m, want, 1)
			m = resumed(t, p, m.State()) // example 6 of the whole: it goes on from there
		}
	}
}

// behindOne is the cells behind one act more, from these ones on.
func behindOne(t *testing.T, p api.Program, done int, cells []complex128) []complex128 {
	t.Helper()
	m := resumed(t, p, toldState(p, done, cells))
	if did, err := m.Run(1); did != 1 || err != nil {
		t.Fatal(did, err)
	}
	_, behind, ok := readState(p, m.State())
	if !ok {
		t.Fatalf("%x isn't a state of %s", m.State(), shown(p))
	}
	return behind
}

// P19.4: what an act writes, and on what it hangs.
func TestByHand(t *testing.T) {
	r := rand.New(rand.NewSource(27))
	for _, p := range somePrograms(t) {
		for done, at := range newModel(p).acts {
			if at.step == len(p.Steps) {
				break
			}
			reads, writes, err := check.Touched(p.Steps[at.step])
			if err != nil {
				t.Fatal(err)
			}
			cells, others := anyList(r, p.Cells, false), anyList(r, p.Cells, true)
			for _, c := range reads {
				others[c] = cells[c]
			}
			a, b := behindOne(t, p, done, cells), behindOne(t, p, done, others)
			for c := range p.Cells {
				isRead, isWritten := slices.Contains(reads, c), slices.Contains(writes, c)
				if !isWritten && (!cplx.Same(a[c], cells[c]) || !cplx.Same(b[c], others[c])) {
					t.Fatalf("act %d of %+v writes cell %d", at.act, p.Steps[at.step], c)
				}
				// A cell that isn't read stays as it was, or is written by this act.
				if isWritten && !cplx.Same(a[c], b[c]) && (isRead || !cplx.Same(a[c], cells[c]) || !cplx.Same(b[c], others[c])) {
					t.Fatalf("act %d of %+v: cell %d hangs on others than those that are read", at.act, p.Steps[at.step], c)
				}
			}
		}
	}
}

// P19.5.
func TestLeftAndPlace(t *testing.T) {
	for _, p := range somePrograms(t) {
		m := made(t, p)
		acts, err := check.Acts(p)
		if err != nil || m.Left() != acts {
			t.Fatalf("Left is %d, Acts %d, %v, of %s", m.Left(), acts, err, shown(p))
		}
		for i, s := range p.Steps {
			for k := range s.Count {
				if step, act := m.Place(); step != i || act != k || m.Left() != acts {
					t.Fatalf("Place is %d, %d, Left %d, want %d, %d, %d, of %s", step, act, m.Left(), i, k, acts, shown(p))
				}
				did, _ := m.Run(1)
				acts -= did
			}
		}
		if step, act := m.Place(); step != len(p.Steps) || act != 0 || m.Left() != 0 || acts != 0 {
			t.Fatalf("Place is %d, %d, Left %d in the end, of %s", step, act, m.Left(), shown(p))
		}
	}
}

// Usual choices of greater lengths, in both ways: what they make is the same, near the transform by its sum.
func TestUsualChoices(t *testing.T) {
	r := rand.New(rand.NewSource(28))
	for _, n := range []int{64, 97, 100, 221, 360} {
		o := must(planner.Choose(n, planner.Usual()))
		x := anyList(r, n, false)
		var outs [][]complex128
		for _, way := range ways {
			p := must(compile.Program(o, way))
			m, want := made(t, p), newModel(p)
			m.Load(x)
			want.load(x)
			m.Run(math.MaxInt)
			want.run(math.MaxInt)
			holdMachine(t, m, want)
			outs = append(outs, must(m.Out()))
		}
		if !cplx.SameList(outs[0], outs[1]) {
			t.Errorf("the ways of %d differ", n)
		}
		power := sums.Power(x)
		for k, y := range must(direct.Forward(x)) {
			if off := cplx.Abs(outs[0][k] - y); off > 1e-13*math.Sqrt(power*float64(n)) {
				t.Errorf("element %d of %d is %v, by the sum %v", k, n, outs[0][k], y)
			}
		}
	}
}

// The document's examples 1 and 7 of the whole.
func TestWhole(t *testing.T) {
	for _, s := range []string{"f4", "d4", "(f2 x f2)", "(d2 x f2)"} {
		o, _, err := order.Parse(s)
		if err != nil {
			t.Fatal(s, err)
		}
		for _, way := range ways {
			m := made(t, must(compile.Program(o, way)))
			m.Load([]complex128{1, 2, 3, 4})
			m.Run(m.Left())
			if out, err := m.Out(); err != nil || !slices.Equal(out, []complex128{10, complex(-2, 2), -2, complex(-2, -2)}) {
				t.Errorf("way %d of %s makes %v, %v", way, s, out, err)
			}
			m.Load([]complex128{1, complex(0, math.NaN()), 3, 4})
			m.Run(m.Left())
			for k, y := range must(m.Out()) {
				if !cplx.Same(y, y) || real(y) == real(y) && imag(y) == imag(y) {
					t.Errorf("way %d of %s: element %d is %v", way, s, k, y)
				}
			}
		}
	}
}
