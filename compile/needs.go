package compile

import (
	"timbre/api"
	"timbre/steps"
)

// needs are what one instance of a part takes: its steps, its acts, and the cells of regions, its own and those of all that is done for it. Each is told up to farBeyond.
type needs struct{ steps, acts, cells int }

// farBeyond is above every limit, and so small that nothing wraps round where it is taken once for each turn.
const farBeyond = 1 << 32

// cells is how many cells the program of a whole order has.
func (p *part) cells() int { return 2*p.length + p.needs.cells }

// fits tells whether the program of a whole order is within the limits.
func (p *part) fits() bool {
	return p.needs.steps <= api.MaxSteps && p.cells() <= api.MaxCells && p.needs.acts <= api.MaxActs
}

// needsOf adds up what a part's stages take; its inner parts know their own needs.
func needsOf(p *part, way int) needs {
	var all needs
	below := 0 // cells of inner regions
	for _, r := range p.rounds {
		for _, s := range r.stages {
			often := r.turns - s.from
			each := s.needs()
			all.steps += often * each.steps
			all.acts += often * each.acts
			if way == api.Wide { // regions are never given back
				below += often * each.cells
			} else {
				below = max(below, each.cells)
			}
		}
	}
	all.cells = below
	for _, size := range p.regions {
		all.cells += size
	}
	return needs{min(all.steps, farBeyond), min(all.acts, farBeyond), min(all.cells, farBeyond)}
}

// needs are those of one turn. Where a step stands changes nothing in its acts.
func (s stage) needs() needs {
	if s.inner != nil {
		return s.inner.needs
	}
	anywhere := job{instance: instance{jump: 1}}
	return needs{steps: 1, acts: steps.Acts(s.step(anywhere, s.from))}
}
