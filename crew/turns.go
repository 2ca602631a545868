package crew

import (
	"timbre/api"
	"timbre/plan"
)

// By transforms all lists by turns: each does so many acts of a task; behind the last turn the tasks are ended in order.
func By(p *plan.Plan, lists [][]complex128, inverse bool, turns []api.Turn) ([][]complex128, error) {
	if !allFit(p, lists) {
		return nil, api.ErrLength
	}
	for _, turn := range turns {
		if turn.Task < 0 || turn.Task >= len(lists) || turn.Acts < 0 {
			return nil, api.ErrWorkers
		}
	}
	b := newBoard(p, lists, inverse)
	for _, turn := range turns {
		b.do(turn.Task, turn.Acts)
	}
	for task := range lists {
		b.do(task, api.MaxActs) // as many as a program may have
	}
	return b.results, nil
}

// board has the tasks of a call. A run is there only while its task is under way: it has cells of its own, many more than its list has elements.
type board struct {
	plan    *plan.Plan
	lists   [][]complex128
	inverse bool
	runs    []*plan.Run
	results [][]complex128 // of the tasks that are ended; of the others nil
}

func newBoard(p *plan.Plan, lists [][]complex128, inverse bool) *board {
	return &board{plan: p, lists: lists, inverse: inverse, runs: make([]*plan.Run, len(lists)), results: make([][]complex128, len(lists))}
}

// do does so many acts of a task, or those that are left. No call of the run is refused: its list fits, and acts are left as long as it is there.
func (b *board) do(task, acts int) {
	if b.results[task] != nil {
		return
	}
	if b.runs[task] == nil {
		b.runs[task], _ = b.plan.Begin(b.lists[task], b.inverse)
	}
	run := b.runs[task]
	run.Do(acts)
	if run.Left() == 0 {
		b.results[task], _ = run.Result()
		b.runs[task] = nil
	}
}
