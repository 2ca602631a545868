package check

import (
	"math"
	"slices"
	"testing"

	"timbre/api"
	"timbre/steps"
)

// The chapter's words, act by act and cell by cell.

// act is what one act reads and writes.
type act struct{ reads, writes []int }

// toldActs are the acts of a step in form.
func toldActs(s api.Step) []act {
	var all []act
	for i := range s.Count {
		own := s.Dst + i
		switch s.Op {
		case api.OpGather:
			all = append(all, act{[]int{s.Src + i*s.Jump}, []int{own}})
		case api.OpScatter:
			all = append(all, act{[]int{s.Src + i}, []int{s.Dst + i*s.Jump}})
		case api.OpZero, api.OpFill:
			all = append(all, act{nil, []int{own}})
		case api.OpTwist, api.OpChirp, api.OpConj, api.OpOver:
			all = append(all, act{[]int{own}, []int{own}})
		case api.OpFly:
			var list []int
			for q := range s.N {
				list = append(list, s.Dst+i+q*s.Jump)
			}
			all = append(all, act{list, list})
		case api.OpDirect:
			var list []int
			for j := range s.N {
				list = append(list, s.Src+j*s.Jump)
			}
			all = append(all, act{list, []int{own}})
		case api.OpTimes:
			all = append(all, act{[]int{own, s.Src + i}, []int{own}})
		default:
			panic("no operation")
		}
	}
	return all
}

// toldStep is what is told of a step: whether it is in form, which cells it touches, and whether its acts may be done in any order.
type toldStep struct {
	inForm        bool
	reads, writes []int
	clashes       bool
	greatest      int // of all these cells
	twice         bool
}

// toldOf goes over all pairs of a cell that is read and the acts that write it.
func toldOf(s api.Step) toldStep {
	if steps.Form(s) != nil {
		return toldStep{}
	}
	told := toldStep{inForm: true}
	acts := toldActs(s)
	writers := map[int][]int{}
	for i, a := range acts {
		told.reads = append(told.reads, a.reads...)
		told.writes = append(told.writes, a.writes...)
		for _, c := range a.writes {
			writers[c] = append(writers[c], i)
		}
	}
	for i, a := range acts {
		for _, c := range a.reads {
			told.clashes = told.clashes || slices.ContainsFunc(writers[c], func(k int) bool { return k != i })
		}
	}
	for _, by := range writers {
		told.twice = told.twice || len(by) > 1
	}
	told.reads, told.writes = rising(told.reads), rising(told.writes)
	told.greatest = slices.Max(append(slices.Clone(told.reads), told.writes...))
	return told
}

func rising(list []int) []int {
	slices.Sort(list)
	return slices.Compact(list)
}

// good is whether the step is good for so many cells.
func (s toldStep) good(cells int) bool { return s.inForm && s.greatest < cells && !s.clashes }

// toldFault is what Fault is told to answer.
func toldFault(p api.Program) int {
	acts := 0
	for i, s := range p.Steps {
		if i == 65536 || !toldOf(s).good(p.Cells) || acts+s.Count > 67108864 {
			return i
		}
		acts += s.Count
	}
	return -1
}

// toldHead is whether a program without steps is good.
func toldHead(p api.Program) bool {
	return p.Length >= 1 && p.Length <= 16384 && p.Cells >= 1 && p.Cells <= 262144 &&
		p.In >= 0 && p.In <= 262144 && p.In+p.Length <= p.Cells &&
		p.Out >= 0 && p.Out <= 262144 && p.Out+p.Length <= p.Cells
}

// holdProgram holds all that is asked of a program against these words: whether it is good, its Fault and its acts.
func holdProgram(t *testing.T, p api.Program, good bool, fault, acts int) {
	t.Helper()
	if got := Fault(p); got != fault {
		t.Fatalf("Fault is %d, want %d, of %s", got, fault, shown(p))
	}
	want := error(nil)
	if !good {
		want, acts = api.ErrProgram, 0
	}
	if err := Check(p); err != want {
		t.Fatalf("Check is %v, want %v, of %s", err, want, shown(p))
	}
	if got, err := Acts(p); got != acts || err != want {
		t.Fatalf("Acts is %d, %v, want %d, %v, of %s", got, err, acts, want, shown(p))
	}
}

// holdStep holds what is asked of a step against what is told: Touched, and whether it is good for cells of numbers around its greatest one.
func holdStep(t *testing.T, s api.Step) toldStep {
	t.Helper()
	told := toldOf(s)
	holdTouched(t, s, told)
	for _, cells := range []int{math.MinInt, -1, 0, 1, told.greatest - 1, told.greatest, told.greatest + 1, told.greatest + 2, 262144, 262145, math.MaxInt} {
		fault := -1
		if !told.good(cells) {
			fault = 0
		}
		p := api.Program{Length: 1, Cells: cells, Steps: []api.Step{s}}
		holdProgram(t, p, fault < 0 && toldHead(p), fault, s.Count)
	}
	return told
}

func holdTouched(t *testing.T, s api.Step, told toldStep) {
	t.Helper()
	reads, writes, err := Touched(s)
	if !told.inForm {
		if err != api.ErrProgram || len(reads) != 0 || len(writes) != 0 {
			t.Fatalf("Touched(%+v) is %v, %d and %d cells", s, err, len(reads), len(writes))
		}
		return
	}
	if err != nil || !slices.Equal(reads, told.reads) || !slices.Equal(writes, told.writes) {
		t.Fatalf("Touched(%+v) is %v, %d and %d cells, want %d and %d", s, err, len(reads), len(writes), len(told.reads), len(told.writes))
	}
	if told.twice { // P18.3
		t.Fatalf("two acts of %+v write one cell", s)
	}
}
