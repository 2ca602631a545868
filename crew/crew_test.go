package crew

import (
	"math"
	"math/rand"
	"slices"
	"testing"

	"timbre/api"
	"timbre/check"
	"timbre/order"
	"timbre/plan"
)

var anyWorkers = []int{1, 2, 3, 5, 8, 63, api.MaxWorkers}

// somePlans are of all kinds of orders, in both ways.
func somePlans() []*plan.Plan {
	var all []*plan.Plan
	for i, s := range []string{"d1", "d2", "d13", "f2", "f5", "(f2 x d3)", "(d2 x f2)", "(f3 x (d2 x b3(f5)))", "b2(f4)", "b11((f4 x (f4 x f2)))", "((d2 x f3) x (f4 x d5))"} {
		all = append(all, must(plan.Of(parsed(s), ways[i%2])))
	}
	return all
}

// P21.1, P21.2: whatever workers, whatever lists, there and back.
func TestMany(t *testing.T) {
	r := rand.New(rand.NewSource(1))
	for _, p := range somePlans() {
		for _, count := range []int{0, 1, 2, 7, 64, 65} {
			lists := anyLists(r, p.Length(), count)
			for _, inverse := range []bool{false, true} {
				want := toldMany(p, lists, inverse)
				for _, workers := range anyWorkers {
					got, err := Many(p, lists, inverse, workers)
					held(t, p.Text(), got, err, want)
				}
			}
		}
	}
}

func TestEveryNumberOfWorkers(t *testing.T) {
	r := rand.New(rand.NewSource(2))
	p := must(plan.New(6))
	for workers := 1; workers <= api.MaxWorkers; workers++ {
		lists := anyLists(r, 6, r.Intn(130))
		inverse := workers%2 == 0
		got, err := Many(p, lists, inverse, workers)
		held(t, p.Text(), got, err, toldMany(p, lists, inverse))
	}
}

func TestKnownBits(t *testing.T) {
	for i, c := range knownBits {
		o := parsed(c.order)
		p := must(plan.Of(o, ways[i%2]))
		x := given(p.Length())
		if sumOf(x) != c.given {
			t.Fatalf("the list of %d elements is another one", len(x))
		}
		lists := [][]complex128{x, x, x}
		for _, inverse := range []bool{false, true} {
			want := c.forward
			if inverse {
				want = c.inverse
			}
			for _, got := range [][][]complex128{
				must(Many(p, lists, inverse, 2)),
				must(By(p, lists, inverse, []api.Turn{{Task: 2, Acts: 7}, {Task: 0, Acts: 1}, {Task: 2, Acts: math.MaxInt}, {Task: 0, Acts: 2}})),
			} {
				for task, y := range got {
					if sumOf(y) != want {
						t.Errorf("%s, inverse %t: the sum of the list %d is %x, want %x", c.order, inverse, task, sumOf(y), want)
					}
				}
			}
		}
		if y := must(Split(o, x, 3)); sumOf(y) != c.forward {
			t.Errorf("Split by %s: the sum is %x, want %x", c.order, sumOf(y), c.forward)
		}
	}
}

// There may be more lists than Shares takes.
func TestMoreListsThanShares(t *testing.T) {
	p := must(plan.Of(order.Direct(1), api.Deep))
	values := make([]complex128, api.MaxList+3)
	lists := make([][]complex128, len(values))
	for i := range lists {
		values[i] = complex(float64(i), 1)
		lists[i] = values[i : i+1]
	}
	got, err := Many(p, lists, false, 7)
	if err != nil || len(got) != len(lists) {
		t.Fatal(len(got), err)
	}
	for i, y := range got {
		if len(y) != 1 || y[0] != values[i] {
			t.Fatalf("the list %d is %v", i, y)
		}
	}
}

// Which error comes first, whatever else is wrong.
func TestManyRefuses(t *testing.T) {
	p := must(plan.New(4))
	fit, short, long := make([]complex128, 4), make([]complex128, 3), make([]complex128, 5)
	for _, workers := range []int{math.MinInt, -1, 0, api.MaxWorkers + 1, math.MaxInt} {
		for _, lists := range [][][]complex128{nil, {}, {fit}, {short}, {nil}} {
			got, err := Many(p, lists, false, workers)
			refused(t, "a wrong number of workers", got, err, api.ErrWorkers)
		}
	}
	for _, workers := range anyWorkers {
		for _, lists := range [][][]complex128{{short}, {long}, {nil}, {{}}, {fit, short}, {fit, fit, long}, {short, fit}, {fit, nil, fit}} {
			for _, inverse := range []bool{false, true} {
				got, err := Many(p, lists, inverse, workers)
				refused(t, "a list of another length", got, err, api.ErrLength)
				got, err = By(p, lists, inverse, nil)
				refused(t, "By: a list of another length", got, err, api.ErrLength)
				got, err = By(p, lists, inverse, []api.Turn{{Task: -1, Acts: -1}, {Task: 99}})
				refused(t, "By: a list of another length, and wrong turns", got, err, api.ErrLength)
			}
		}
		for _, lists := range [][][]complex128{nil, {}} {
			got, err := Many(p, lists, true, workers)
			refused(t, "no lists", got, err, nil)
		}
	}
}

// P21.2: any turns.
func TestBy(t *testing.T) {
	r := rand.New(rand.NewSource(3))
	for _, p := range somePlans() {
		acts := must(check.Acts(p.Program()))
		for range 30 {
			lists := anyLists(r, p.Length(), 1+r.Intn(6))
			turns := anyTurns(r, len(lists), acts)
			for _, inverse := range []bool{false, true} {
				got, err := By(p, lists, inverse, turns)
				held(t, p.Text(), got, err, toldMany(p, lists, inverse))
			}
		}
	}
}

// Each task an act at a time, one task behind the other or in and out, to the end and beyond.
func TestByOneAct(t *testing.T) {
	r := rand.New(rand.NewSource(4))
	for _, p := range somePlans() {
		lists := anyLists(r, p.Length(), 3)
		acts := must(check.Acts(p.Program()))
		for _, inverse := range []bool{false, true} {
			want := toldMany(p, lists, inverse)
			for many := range acts + 2 {
				var round, behind []api.Turn
				for range many {
					round = append(round, api.Turn{Task: 0, Acts: 1}, api.Turn{Task: 1, Acts: 1}, api.Turn{Task: 2, Acts: 1})
				}
				for task := range 3 {
					behind = append(behind, api.Turn{Task: 2 - task}, api.Turn{Task: 2 - task, Acts: many}, api.Turn{Task: 2 - task})
				}
				got, err := By(p, lists, inverse, round)
				held(t, p.Text(), got, err, want)
				got, err = By(p, lists, inverse, behind)
				held(t, p.Text(), got, err, want)
			}
		}
	}
}

// Behind each turn the tasks stand where they are told to stand, and only those that are under way have runs.
func TestTurns(t *testing.T) {
	r := rand.New(rand.NewSource(14))
	for _, p := range somePlans() {
		acts := must(check.Acts(p.Program()))
		for range 20 {
			lists := anyLists(r, p.Length(), 1+r.Intn(5))
			want := toldMany(p, lists, true)
			b := newBoard(p, lists, true)
			done := make([]int, len(lists))
			for _, turn := range anyTurns(r, len(lists), acts) {
				ended := b.results[turn.Task]
				b.do(turn.Task, turn.Acts)
				done[turn.Task] += min(turn.Acts, acts-done[turn.Task])
				if ended != nil && &b.results[turn.Task][0] != &ended[0] {
					t.Fatalf("%s: an ended task is done anew", p.Text())
				}
				for task := range lists {
					holdTask(t, b, task, done[task], acts, want[task])
				}
			}
		}
	}
}

func holdTask(t *testing.T, b *board, task, done, acts int, want []complex128) {
	t.Helper()
	run, result := b.runs[task], b.results[task]
	if done == acts && (run != nil || !alike(result, want)) {
		t.Fatalf("%s: the ended task %d has a run (%t) and the result %v", b.plan.Text(), task, run != nil, result)
	}
	if done < acts && (result != nil || run == nil && done > 0 || run != nil && run.Left() != acts-done) {
		t.Fatalf("%s: the task %d isn't where %d of %d acts leave it", b.plan.Text(), task, done, acts)
	}
}

func TestByRefuses(t *testing.T) {
	p := must(plan.New(4))
	lists := [][]complex128{{1, 2, 3, 4}, {5, 6, 7, 8}}
	for _, wrong := range []api.Turn{{Task: 2}, {Task: -1}, {Task: math.MaxInt}, {Task: math.MinInt}, {Task: 0, Acts: -1}, {Task: 1, Acts: math.MinInt}, {Task: 2, Acts: 5}, {Task: -1, Acts: -1}} {
		for at := range 3 {
			turns := slices.Insert([]api.Turn{{Task: 0, Acts: 1}, {Task: 1, Acts: math.MaxInt}}, at, wrong)
			got, err := By(p, lists, false, turns)
			refused(t, "a wrong turn", got, err, api.ErrWorkers)
		}
	}
	for _, none := range [][][]complex128{nil, {}} {
		got, err := By(p, none, true, nil)
		refused(t, "no lists", got, err, nil)
		got, err = By(p, none, true, []api.Turn{})
		refused(t, "no lists", got, err, nil)
		got, err = By(p, none, true, []api.Turn{{}})
		refused(t, "a turn of no list", got, err, api.ErrWorkers)
	}
}

func TestExamples(t *testing.T) {
	for _, c := range []struct {
		n, workers int
		want       []int
		err        error
	}{
		{10, 3, []int{0, 3, 6, 10}, nil}, {2, 4, []int{0, 0, 1, 1, 2}, nil}, {0, 1, []int{0, 0}, nil},
		{5, 0, nil, api.ErrWorkers}, {5, 65, nil, api.ErrWorkers}, {-1, 0, nil, api.ErrRange},
	} {
		if got, err := Shares(c.n, c.workers); err != c.err || !slices.Equal(got, c.want) {
			t.Errorf("Shares(%d, %d) is %v, %v", c.n, c.workers, got, err)
		}
	}
	p := must(plan.New(2))
	none, err := Many(p, nil, false, 1)
	refused(t, "Many of no lists", none, err, nil)
	none, err = By(p, [][]complex128{{1, 2}}, false, []api.Turn{{Task: 1}})
	refused(t, "a turn of task 1", none, err, api.ErrWorkers)
	got, err := Many(p, [][]complex128{{1, 2}, {3, 4}}, false, 2)
	held(t, "two lists", got, err, [][]complex128{{3, -1}, {7, -1}})
	got, err = Many(p, got, true, 2)
	if err != nil || !slices.EqualFunc(got, [][]complex128{{1, 2}, {3, 4}}, slices.Equal) {
		t.Errorf("two lists back are %v, %v", got, err)
	}
	split, err := Split(order.Times(order.Fly(2), order.Fly(2)), []complex128{1, 2, 3, 4}, 2)
	if err != nil || !slices.Equal(split, []complex128{10, complex(-2, 2), -2, complex(-2, -2)}) {
		t.Errorf("Split is %v, %v", split, err)
	}
}
