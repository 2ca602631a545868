package check

import (
	"math/rand"
	"slices"
	"testing"

	"timbre/api"
	"timbre/compile"
	"timbre/order"
	"timbre/planner"
)

// anyStep is any small step, good for few cells or not.
func anyStep(r *rand.Rand) api.Step {
	s := samples[r.Intn(len(samples))].step
	change := func(x *int) {
		if r.Intn(3) == 0 {
			*x += r.Intn(5) - 2
		}
	}
	change(&s.Dst)
	change(&s.Count)
	if s.Src != 0 {
		change(&s.Src)
	}
	if s.Jump != 0 {
		change(&s.Jump)
	}
	if s.N != 0 {
		change(&s.N)
	}
	if r.Intn(20) == 0 {
		s.Op = r.Intn(13)
	}
	return s
}

// anyProgram is a program of a few steps, most of which are good for its cells.
func anyProgram(r *rand.Rand) api.Program {
	p := api.Program{Length: 1 + r.Intn(4), Cells: 9 + r.Intn(8), In: r.Intn(4), Out: r.Intn(12)}
	for range r.Intn(9) {
		s := anyStep(r)
		for range r.Intn(6) {
			if !toldOf(s).good(p.Cells) {
				s = anyStep(r)
			}
		}
		p.Steps = append(p.Steps, s)
	}
	return p
}

// holdLaws holds a program, and P18.2 to P18.4 of it.
func holdLaws(t *testing.T, r *rand.Rand, p api.Program) (good bool) {
	t.Helper()
	fault := toldFault(p)
	good = toldHead(p) && fault < 0
	acts := 0
	for _, s := range p.Steps {
		acts += s.Count
	}
	holdProgram(t, p, good, fault, acts)
	ahead := p
	if fault >= 0 {
		ahead.Steps = p.Steps[:fault]
		if got := Fault(ahead); got != -1 {
			t.Fatalf("Fault of %s is %d, that of the steps ahead %d", shown(p), fault, got)
		}
		return good
	}
	if !good {
		return false
	}
	for end := range len(p.Steps) + 1 {
		ahead.Steps = p.Steps[:end]
		if Check(ahead) != nil || Fault(ahead) != -1 {
			t.Fatalf("the first %d steps aren't good: %s", end, shown(p))
		}
	}
	holdMore(t, r, p, acts)
	return true
}

// holdMore is P18.4 of a good program.
func holdMore(t *testing.T, r *rand.Rand, p api.Program, acts int) {
	t.Helper()
	more := p
	for _, cells := range []int{p.Cells, p.Cells + 1, p.Cells + r.Intn(262145-p.Cells), 262144} {
		more.Cells = cells
		holdProgram(t, more, true, -1, acts)
	}
	more.Cells = 262145
	holdProgram(t, more, false, -1, 0)
	more.Cells = p.Cells
	s := anyStep(r)
	more.Steps = append(slices.Clone(p.Steps), s)
	if toldOf(s).good(p.Cells) {
		holdProgram(t, more, true, -1, acts+s.Count)
	} else {
		holdProgram(t, more, false, len(p.Steps), 0)
	}
}

func TestAnyPrograms(t *testing.T) {
	r := rand.New(rand.NewSource(182))
	met := map[bool]int{}
	for range 20000 {
		met[holdLaws(t, r, anyProgram(r))]++
	}
	if met[true] < 2000 || met[false] < 2000 {
		t.Error("good and bad programs:", met)
	}
}

// P17.2: the programs that layer 17 makes are good, and spoilt ones are what is told.
func TestCompiledPrograms(t *testing.T) {
	r := rand.New(rand.NewSource(183))
	for _, n := range []int{1, 2, 3, 4, 6, 7, 12, 17, 20, 34, 60, 97, 128} {
		o, err := planner.Choose(n, planner.Usual())
		if err != nil {
			t.Fatal(n, err)
		}
		for _, way := range []int{api.Deep, api.Wide} {
			p, err := compile.Program(o, way)
			if err != nil {
				t.Fatal(n, err)
			}
			if !holdLaws(t, r, p) {
				t.Errorf("way %d of %d isn't good", way, n)
			}
			fewer := p
			fewer.Cells--
			holdLaws(t, r, fewer)
			for range 30 {
				holdLaws(t, r, spoilt(r, p))
			}
		}
	}
}

// spoilt is a program with one field of one step changed.
func spoilt(r *rand.Rand, p api.Program) api.Program {
	p.Steps = slices.Clone(p.Steps)
	s := &p.Steps[r.Intn(len(p.Steps))]
	x := []*int{&s.Dst, &s.Src, &s.Jump, &s.Count, &s.N, &s.K}[r.Intn(6)]
	*x += []int{-p.Length, -2, -1, 1, 2, p.Length, p.Cells}[r.Intn(7)]
	return p
}

// Every length's usual choice has good programs, in both ways.
func TestAllLengths(t *testing.T) {
	for n := 1; n <= api.MaxLen; n += 1 + n/40 {
		o, err := planner.Choose(n, planner.Usual())
		if err != nil {
			t.Fatal(n, err)
		}
		for _, way := range []int{api.Deep, api.Wide} {
			p, err := compile.Program(o, way)
			if err != nil {
				t.Fatal(n, err)
			}
			acts := 0
			for _, s := range p.Steps {
				acts += s.Count
			}
			holdProgram(t, p, true, -1, acts)
		}
	}
}

// A program of as many steps as may be, compiled of an order.
func TestGreatPrograms(t *testing.T) {
	o, _, err := order.Parse("b8((b2(f4) x (b3(b7(b13((f5 x f5)))) x b15((b2(f5) x (f3 x f5))))))")
	if err != nil {
		t.Fatal(err)
	}
	for _, way := range []int{api.Deep, api.Wide} {
		p, err := compile.Program(o, way)
		if err != nil || len(p.Steps) != 65536 || Check(p) != nil || Fault(p) != -1 {
			t.Errorf("way %d: %v, %d steps, %v, fault %d", way, err, len(p.Steps), Check(p), Fault(p))
		}
		p.Steps = append(p.Steps, p.Steps[0])
		if Check(p) != api.ErrProgram || Fault(p) != 65536 {
			t.Errorf("way %d and one step: %v, fault %d", way, Check(p), Fault(p))
		}
	}
}
