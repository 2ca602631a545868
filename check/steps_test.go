package check

import (
	"math"
	"math/rand"
	"testing"

	"timbre/api"
)

// holdAll holds all steps with these fields, and asks that good and clashing ones are among those of the operations that can clash.
func holdAll(t *testing.T, op int, canClash bool, dsts, srcs, jumps, counts, ns []int) {
	t.Helper()
	inForm, clashing := 0, 0
	for _, d := range dsts {
		for _, s := range srcs {
			for _, j := range jumps {
				for _, c := range counts {
					for _, n := range ns {
						told := holdStep(t, api.Step{Op: op, Dst: d, Src: s, Jump: j, Count: c, N: n})
						if told.inForm {
							inForm++
						}
						if told.clashes {
							clashing++
						}
					}
				}
			}
		}
	}
	if inForm == 0 || canClash && clashing == 0 || clashing == inForm || !canClash && clashing > 0 {
		t.Errorf("operation %d: %d steps in form, %d of them clash", op, inForm, clashing)
	}
}

// upto are the numbers from least to most.
func upto(least, most int) []int {
	var all []int
	for x := least; x <= most; x++ {
		all = append(all, x)
	}
	return all
}

// All small steps of each operation, whatever they read and write.
func TestSmallSteps(t *testing.T) {
	none := []int{0}
	holdAll(t, api.OpGather, true, upto(0, 12), upto(0, 12), upto(0, 6), upto(0, 8), none)
	holdAll(t, api.OpScatter, true, upto(0, 12), upto(0, 12), upto(0, 6), upto(0, 8), none)
	holdAll(t, api.OpTimes, true, upto(0, 12), upto(0, 12), none, upto(0, 12), none)
	holdAll(t, api.OpDirect, true, upto(0, 10), upto(0, 10), upto(0, 5), upto(0, 6), upto(0, 6))
	holdAll(t, api.OpFly, false, upto(0, 4), none, upto(0, 9), upto(0, 10), upto(1, 6))
	for _, op := range []int{api.OpZero, api.OpConj} {
		holdAll(t, op, false, upto(0, 12), none, none, upto(0, 12), none)
	}
	for _, op := range []int{api.OpTwist, api.OpChirp, api.OpFill, api.OpOver} {
		holdAll(t, op, false, upto(0, 6), none, none, upto(0, 12), upto(0, 6))
	}
}

// Longer steps of which one act just meets, or just misses, what another one writes.
func TestMeetings(t *testing.T) {
	r := rand.New(rand.NewSource(18))
	clashing, free := 0, 0
	for range 6000 {
		count := 1 + r.Intn(1<<r.Intn(9))
		jump := 1 + r.Intn(1<<r.Intn(9))
		i, k := near(r, count), near(r, count)
		var s api.Step
		switch r.Intn(4) {
		case 0: // act i reads the cell that act k writes
			s = api.Step{Op: api.OpGather, Dst: 600 + i*jump - k, Src: 600, Jump: jump, Count: count}
		case 1: // act k reads the cell that act i writes
			s = api.Step{Op: api.OpScatter, Dst: 600, Src: 600 + i*jump - k, Jump: jump, Count: count}
		case 2:
			n := 1 + r.Intn(64)
			s = api.Step{Op: api.OpDirect, Src: 600, Jump: jump, N: n, Count: 1 + r.Intn(n)}
			s.Dst = 600 + near(r, n)*jump - near(r, s.Count)
		case 3:
			s = api.Step{Op: api.OpTimes, Dst: 600, Src: 600 + i - k, Count: count}
		}
		// All cells may be moved by as much: then none is below 0.
		if least := min(s.Dst, s.Src); least < 0 {
			s.Dst -= least
			s.Src -= least
		}
		told := holdStep(t, s)
		if !told.inForm {
			t.Fatalf("%+v isn't in form", s)
		}
		if told.clashes {
			clashing++
		} else {
			free++
		}
	}
	if clashing < 1000 || free < 1000 {
		t.Error(clashing, "steps clash,", free, "don't")
	}
}

// near is a number around the first, the last, or any of so many.
func near(r *rand.Rand, count int) int {
	switch r.Intn(3) {
	case 0:
		return r.Intn(3) - 1
	case 1:
		return count - 2 + r.Intn(4)
	}
	return r.Intn(count)
}

// Steps with the greatest fields, whose cells are far beyond MaxCells; and such that fill all cells.
func TestGreatSteps(t *testing.T) {
	const most = 262144
	for _, s := range []api.Step{
		{Op: api.OpGather, Dst: most - 1, Src: most - 1, Jump: most, Count: most},
		{Op: api.OpGather, Dst: 0, Src: most - 1, Jump: most, Count: most},
		{Op: api.OpGather, Dst: most - 1, Src: 0, Jump: 1, Count: most},
		{Op: api.OpGather, Dst: 0, Src: most - 1, Jump: 1, Count: most},
		{Op: api.OpGather, Dst: most - 1, Src: 0, Jump: most - 1, Count: 2},
		{Op: api.OpGather, Dst: 0, Src: 0, Jump: 1, Count: most},
		{Op: api.OpScatter, Dst: most - 1, Src: most - 1, Jump: most, Count: most},
		{Op: api.OpScatter, Dst: most - 1, Src: 0, Jump: most, Count: most},
		{Op: api.OpScatter, Dst: 0, Src: most - 1, Jump: most - 1, Count: 2},
		{Op: api.OpZero, Dst: 0, Count: most},
		{Op: api.OpZero, Dst: 1, Count: most},
		{Op: api.OpConj, Dst: most - 1, Count: most},
		{Op: api.OpTwist, Dst: most - 1, Count: most, N: 16384, K: 16383},
		{Op: api.OpChirp, Dst: most - 16384, Count: 16384, N: 16384},
		{Op: api.OpFill, Dst: most - 16383, Count: 16384, N: 8192},
		{Op: api.OpOver, Dst: 0, Count: most, N: 16384},
		{Op: api.OpFly, Dst: most - 1, Jump: most, Count: most, N: 5},
		{Op: api.OpFly, Dst: 0, Jump: most / 4, Count: most / 4, N: 4},
		{Op: api.OpFly, Dst: 1, Jump: most / 2, Count: most / 2, N: 2},
		{Op: api.OpDirect, Dst: most - 1, Src: most - 1, Jump: most, Count: 64, N: 64},
		{Op: api.OpDirect, Dst: most - 64, Src: 0, Jump: most, Count: 64, N: 64},
		{Op: api.OpDirect, Dst: most - 63, Src: 0, Jump: most, Count: 64, N: 64},
		{Op: api.OpDirect, Dst: most - 1, Src: 0, Jump: most - 1, Count: 1, N: 64},
		{Op: api.OpTimes, Dst: 0, Src: most - 1, Count: most - 1},
		{Op: api.OpTimes, Dst: 0, Src: most - 1, Count: most},
		{Op: api.OpTimes, Dst: most - 1, Src: 0, Count: most},
		{Op: api.OpTimes, Dst: most / 2, Src: 0, Count: most / 2},
	} {
		if told := holdStep(t, s); !told.inForm {
			t.Errorf("%+v isn't in form", s)
		}
	}
	// Cells of a program aren't bounded for Fault; its Check bounds them.
	far := api.Step{Op: api.OpGather, Dst: most - 1, Src: most - 1, Jump: most, Count: most}
	p := api.Program{Length: 1, Cells: 1 << 36, Steps: []api.Step{far}}
	holdProgram(t, p, false, -1, 0)
	p.Cells--
	holdProgram(t, p, false, 0, 0)
}

// Steps that aren't in form, by each of their fields.
func TestStepsNotInForm(t *testing.T) {
	odd := []int{math.MinInt, math.MinInt + 1, -262144, -1, 0, 1, 262143, 262144, 262145, 1 << 32, 1 << 62, math.MaxInt}
	bad := 0
	for _, c := range samples {
		for field := range 7 {
			for _, x := range odd {
				s := c.step
				*[]*int{&s.Op, &s.Dst, &s.Src, &s.Jump, &s.Count, &s.N, &s.K}[field] = x
				if !holdStep(t, s).inForm {
					bad++
				}
			}
		}
	}
	if bad < 500 {
		t.Error("so few steps that aren't in form:", bad)
	}
	for _, op := range []int{-1, 0, 12, 256 + 3, 1<<32 + 3} {
		holdStep(t, api.Step{Op: op, Count: 1})
	}
}
