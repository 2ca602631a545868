package check

import (
	"fmt"
	"math"
	"slices"
	"testing"

	"timbre/api"
)

// shown is a program, its first steps alone.
func shown(p api.Program) string {
	return fmt.Sprintf("%d, %d cells, in %d, out %d, %d steps: %+v", p.Length, p.Cells, p.In, p.Out, len(p.Steps), p.Steps[:min(len(p.Steps), 8)])
}

// names of the operations, with good small steps of each.
var samples = []struct {
	name string
	step api.Step
}{
	{"gather", api.Step{Op: api.OpGather, Dst: 0, Src: 4, Jump: 2, Count: 3}},
	{"scatter", api.Step{Op: api.OpScatter, Dst: 4, Src: 0, Jump: 2, Count: 3}},
	{"zero", api.Step{Op: api.OpZero, Dst: 1, Count: 3}},
	{"twist", api.Step{Op: api.OpTwist, Dst: 1, Count: 3, N: 8, K: 5}},
	{"fly", api.Step{Op: api.OpFly, Dst: 1, Jump: 3, Count: 2, N: 4}},
	{"direct", api.Step{Op: api.OpDirect, Dst: 0, Src: 3, Jump: 2, Count: 3, N: 3}},
	{"chirp", api.Step{Op: api.OpChirp, Dst: 2, Count: 2, N: 3}},
	{"fill", api.Step{Op: api.OpFill, Dst: 1, Count: 6, N: 3}},
	{"times", api.Step{Op: api.OpTimes, Dst: 1, Src: 5, Count: 3}},
	{"conj", api.Step{Op: api.OpConj, Dst: 1, Count: 4}},
	{"over", api.Step{Op: api.OpOver, Dst: 1, Count: 4, N: 6}},
}

func TestExamples(t *testing.T) {
	gather, times, direct := api.OpGather, api.OpTimes, api.OpDirect
	for _, c := range []struct {
		cells int
		step  api.Step
		good  bool
	}{
		{4, api.Step{Op: gather, Src: 2, Jump: 1, Count: 2}, true},
		{4, api.Step{Op: gather, Src: 1, Jump: 1, Count: 2}, false},
		{4, api.Step{Op: gather, Dst: 1, Src: 1, Jump: 1, Count: 3}, true},
		{4, api.Step{Op: gather, Jump: 2, Count: 2}, true},
		{6, api.Step{Op: gather, Jump: 2, Count: 3}, false},
		{6, api.Step{Op: times, Count: 3}, true},
		{6, api.Step{Op: times, Src: 1, Count: 3}, false},
		{6, api.Step{Op: direct, Src: 2, Jump: 1, N: 2, Count: 2}, true},
		{6, api.Step{Op: direct, Src: 1, Jump: 1, N: 2, Count: 2}, false},
		{4, api.Step{Op: api.OpFly, Jump: 2, Count: 2, N: 2}, true},
		{3, api.Step{Op: api.OpFly, Jump: 2, Count: 2, N: 2}, false},
	} {
		fault := -1
		if !c.good {
			fault = 0
		}
		holdProgram(t, api.Program{Length: 1, Cells: c.cells, Steps: []api.Step{c.step}}, c.good, fault, c.step.Count)
	}
	fly := api.Step{Op: api.OpFly, Jump: 2, Count: 2, N: 2}
	if r, w, err := Touched(fly); err != nil || !slices.Equal(r, []int{0, 1, 2, 3}) || !slices.Equal(w, []int{0, 1, 2, 3}) {
		t.Errorf("Touched(%+v) is %v, %v, %v", fly, r, w, err)
	}
}

// What each operation touches, written out.
func TestTouchedOfEach(t *testing.T) {
	want := map[string][2][]int{
		"gather":  {{4, 6, 8}, {0, 1, 2}},
		"scatter": {{0, 1, 2}, {4, 6, 8}},
		"zero":    {nil, {1, 2, 3}},
		"twist":   {{1, 2, 3}, {1, 2, 3}},
		"fly":     {{1, 2, 4, 5, 7, 8, 10, 11}, {1, 2, 4, 5, 7, 8, 10, 11}},
		"direct":  {{3, 5, 7}, {0, 1, 2}},
		"chirp":   {{2, 3}, {2, 3}},
		"fill":    {nil, {1, 2, 3, 4, 5, 6}},
		"times":   {{1, 2, 3, 5, 6, 7}, {1, 2, 3}},
		"conj":    {{1, 2, 3, 4}, {1, 2, 3, 4}},
		"over":    {{1, 2, 3, 4}, {1, 2, 3, 4}},
	}
	for _, c := range samples {
		r, w, err := Touched(c.step)
		if err != nil || !slices.Equal(r, want[c.name][0]) || !slices.Equal(w, want[c.name][1]) {
			t.Errorf("Touched of %s is %v, %v, %v", c.name, r, w, err)
		}
		if told := holdStep(t, c.step); told.clashes {
			t.Errorf("%s should be good", c.name)
		}
	}
	overlap := api.Step{Op: api.OpTimes, Dst: 4, Src: 2, Count: 3}
	if r, w, err := Touched(overlap); err != nil || !slices.Equal(r, []int{2, 3, 4, 5, 6}) || !slices.Equal(w, []int{4, 5, 6}) {
		t.Errorf("Touched(%+v) is %v, %v, %v", overlap, r, w, err)
	}
}

// The heads of programs: what is asked of Length, Cells, In and Out, which Fault doesn't look at.
func TestHeads(t *testing.T) {
	lengths := []int{math.MinInt, -1, 0, 1, 2, 16383, 16384, 16385, 262144, math.MaxInt}
	cells := []int{math.MinInt, -1, 0, 1, 2, 3, 16383, 16384, 16385, 262143, 262144, 262145, 1 << 32, math.MaxInt}
	met := map[bool]int{}
	for _, length := range lengths {
		for _, count := range cells {
			places := []int{math.MinInt, -1, 0, 1, count - length - 1, count - length, count - length + 1, count, 1 << 62, math.MaxInt - 1, math.MaxInt}
			for _, in := range places {
				for _, out := range places {
					p := api.Program{Length: length, Cells: count, In: in, Out: out}
					good := toldHead(p)
					met[good]++
					holdProgram(t, p, good, -1, 0)
					if count >= 1 {
						p.Steps = []api.Step{{Op: api.OpZero, Count: 1}}
						holdProgram(t, p, good, -1, 1)
						p.Steps = append(p.Steps, api.Step{})
						holdProgram(t, p, false, 1, 0)
					}
				}
			}
		}
	}
	if met[true] < 50 || met[false] < 50 {
		t.Error("good and bad heads:", met)
	}
}

// The numbers of the chapter at their edges, written out.
func TestHeadEdges(t *testing.T) {
	for _, c := range []struct {
		length, cells, in, out int
		good                   bool
	}{
		{1, 1, 0, 0, true},
		{16384, 16384, 0, 0, true},
		{16385, 262144, 0, 0, false},
		{16384, 262144, 245760, 0, true},
		{16384, 262144, 245761, 0, false},
		{16384, 262144, 0, 245760, true},
		{16384, 262144, 0, 245761, false},
		{1, 262145, 0, 0, false},
		{3, 2, 0, 0, false},
		{2, 4, 1, 1, true}, // the list and the answer in the same cells
		{2, 4, -1, 2, false},
		{2, 4, 2, -1, false},
	} {
		p := api.Program{Length: c.length, Cells: c.cells, In: c.in, Out: c.out}
		holdProgram(t, p, c.good, -1, 0)
	}
}

// zeros are so many steps, of so many acts each.
func zeros(steps, acts int) []api.Step {
	return slices.Repeat([]api.Step{{Op: api.OpZero, Count: acts}}, steps)
}

func TestMostActs(t *testing.T) {
	p := api.Program{Length: 1, Cells: 262144, Steps: zeros(256, 262144)}
	holdProgram(t, p, true, -1, 67108864)
	one := api.Step{Op: api.OpConj, Dst: 7, Count: 1}
	p.Steps = append(p.Steps, one)
	holdProgram(t, p, false, 256, 0)
	p.Steps = append(p.Steps, api.Step{}, one)
	holdProgram(t, p, false, 256, 0)
	p.Steps = slices.Insert(p.Steps, 0, one)
	holdProgram(t, p, false, 256, 0)
	p.Steps[0] = api.Step{}
	holdProgram(t, p, false, 0, 0)
	p.Steps = append([]api.Step{{Op: api.OpFill, Count: 16383, N: 3}}, zeros(256, 262144)...)
	p.Steps[256].Count = 262144 - 16383
	holdProgram(t, p, true, -1, 67108864)
	p.Steps[256].Count++
	holdProgram(t, p, false, 256, 0)
	p.Steps = zeros(1000, 262144)
	holdProgram(t, p, false, 256, 0)
}

func TestMostSteps(t *testing.T) {
	p := api.Program{Length: 1, Cells: 4, Steps: zeros(65536, 2)}
	holdProgram(t, p, true, -1, 131072)
	p.Steps = append(p.Steps, zeros(1, 1)...)
	holdProgram(t, p, false, 65536, 0)
	p.Steps = append(p.Steps, zeros(100, 9)...)
	holdProgram(t, p, false, 65536, 0)
	p.Steps[65536] = api.Step{}
	holdProgram(t, p, false, 65536, 0)
	p.Steps[65535] = api.Step{}
	holdProgram(t, p, false, 65535, 0)
	p.Steps[65535] = api.Step{Op: api.OpZero, Dst: 3, Count: 2} // beyond the cells
	holdProgram(t, p, false, 65535, 0)
	// Both bounds at once: MaxSteps steps with MaxActs acts, one act more in the last one, and one step more.
	p.Cells = 1024
	p.Steps = zeros(65536, 1024)
	holdProgram(t, p, true, -1, 67108864)
	p.Steps = append(p.Steps, zeros(1, 1)...)
	holdProgram(t, p, false, 65536, 0)
	p.Cells = 1025
	p.Steps[3].Count = 1025
	holdProgram(t, p, false, 65535, 0)
}

// Counts that would add up to anything, were they not refused by the form of their steps.
func TestCountsThatWrapRound(t *testing.T) {
	for _, count := range []int{math.MinInt, -1, 0, 262145, 1 << 32, math.MaxInt} {
		p := api.Program{Length: 1, Cells: 262144, Steps: zeros(256, 262144)}
		p.Steps = append([]api.Step{{Op: api.OpZero, Count: count}}, p.Steps...)
		holdProgram(t, p, false, 0, 0)
		p.Steps[0].Count, p.Steps[9].Count = 1, count
		holdProgram(t, p, false, 9, 0)
	}
}

// Nothing that is handed in is changed, and no two lists that come out share memory, spare room included.
func TestMemory(t *testing.T) {
	var list []api.Step
	for _, c := range samples {
		list = append(list, c.step)
	}
	p := api.Program{Length: 1, Cells: 12, Steps: append(list, api.Step{Op: 77})[:len(list)]}
	before := slices.Clone(p.Steps[:len(list)+1])
	holdProgram(t, p, true, -1, 36)
	if !slices.Equal(p.Steps[:len(list)+1], before) {
		t.Error("the steps are changed")
	}
	for _, s := range before {
		r, w, _ := Touched(s)
		r2, w2, _ := Touched(s)
		all := [][]int{r, w, r2, w2}
		for i, x := range all {
			for k := range x[:cap(x)] {
				x[:cap(x)][k] = -1 - i
			}
		}
		for i, x := range all {
			for _, v := range x[:cap(x)] {
				if v != -1-i {
					t.Fatalf("lists of %+v share memory", s)
				}
			}
		}
		holdStep(t, s)
	}
}
