package check

import (
	"slices"

	"timbre/api"
)

// row is count cells from first on, jump apart.
type row struct{ first, jump, count int }

// touch is what the acts of a step read and write: act i the cell i of each row. No cell is written by two acts.
type touch struct {
	reads, writes []row
	whole         bool // each act reads its rows as a whole, not one cell of each
}

// touchOf is the chapter's table. The step is in form.
func touchOf(s api.Step) touch {
	own := []row{{s.Dst, 1, s.Count}}
	switch s.Op {
	case api.OpGather:
		return touch{reads: []row{{s.Src, s.Jump, s.Count}}, writes: own}
	case api.OpScatter:
		return touch{reads: []row{{s.Src, 1, s.Count}}, writes: []row{{s.Dst, s.Jump, s.Count}}}
	case api.OpZero, api.OpFill:
		return touch{writes: own}
	case api.OpFly:
		rows := make([]row, s.N)
		for q := range rows {
			rows[q] = row{s.Dst + q*s.Jump, 1, s.Count}
		}
		return touch{reads: rows, writes: rows}
	case api.OpDirect:
		return touch{reads: []row{{s.Src, s.Jump, s.N}}, writes: own, whole: true}
	case api.OpTimes:
		return touch{reads: []row{own[0], {s.Src, 1, s.Count}}, writes: own}
	}
	return touch{reads: own, writes: own}
}

// below tells whether all cells are below that number.
func (t touch) below(cells int) bool {
	beyond := func(r row) bool { return r.last() >= cells }
	return !slices.ContainsFunc(t.reads, beyond) && !slices.ContainsFunc(t.writes, beyond)
}

// clashes tells whether an act reads a cell that another one writes.
func (t touch) clashes() bool {
	for _, w := range t.writes {
		for _, r := range t.reads {
			if t.whole && w.count > 1 && r.meets(w) || !t.whole && crossed(r, w) {
				return true
			}
		}
	}
	return false
}

// crossed tells whether a cell i of one row is a cell k of the other, i and k not the same. As in all steps, both have as many cells, and one of them the jump 1.
func crossed(r, w row) bool {
	if w.jump != 1 {
		r, w = w, r
	}
	i := r.reach(w.first)
	k := r.at(i) - w.first
	if i == k { // the next cell tells whether the rows are one or drift apart
		i++
		k += r.jump
	}
	return i != k && i < r.count && k < w.count
}

// meets tells whether some cell of a row is one of w, whose jump is 1.
func (r row) meets(w row) bool {
	i := r.reach(w.first)
	return i < r.count && r.at(i) <= w.last()
}

// reach is the number of the row's first cell that isn't below this one, were the row without an end.
func (r row) reach(cell int) int { return max(0, (cell-r.first+r.jump-1)/r.jump) }

func (r row) at(i int) int { return r.first + i*r.jump }

func (r row) last() int { return r.at(r.count - 1) }

// cellsOf are all cells of these rows, rising, each once.
func cellsOf(rows []row) []int {
	var all []int
	for _, r := range rows {
		for i := range r.count {
			all = append(all, r.at(i))
		}
	}
	slices.Sort(all)
	return slices.Compact(all)
}
