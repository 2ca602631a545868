package compile

import "timbre/api"

// emitter fills the program that it embeds.
type emitter struct {
	api.Program
	next int // the cell from which on the next region is taken
}

// emitted is the program of a whole order.
func emitted(p *part, way int) api.Program {
	n := p.length
	e := &emitter{next: 2 * n}
	e.Length, e.Cells, e.Out = n, p.cells(), n
	e.Steps = make([]api.Step, 0, p.needs.steps)
	whole := instance{src: 0, jump: 1, dst: n}
	if way == api.Deep {
		e.deep(p, whole)
	} else {
		e.wide(p, []instance{whole})
	}
	return e.Program
}

// deep does one instance as a whole, each round turn by turn.
func (e *emitter) deep(p *part, at instance) {
	before := e.next
	j := e.begin(p, at)
	for _, r := range p.rounds {
		for i := range r.turns {
			for _, s := range r.stages {
				e.turn(s, j, i)
			}
		}
	}
	e.next = before
}

// turn does the turn i of a stage of one instance.
func (e *emitter) turn(s stage, j job, i int) {
	switch {
	case i < s.from:
	case s.inner != nil:
		e.deep(s.inner, s.instance(j, i))
	default:
		e.Steps = append(e.Steps, s.step(j, i))
	}
}

// wide does all these instances of a part together, stage by stage.
func (e *emitter) wide(p *part, all []instance) {
	jobs := make([]job, len(all))
	for i, at := range all {
		jobs[i] = e.begin(p, at)
	}
	for _, r := range p.rounds {
		for _, s := range r.stages {
			e.level(s, jobs, r.turns)
		}
	}
}

// level does one stage of all instances.
func (e *emitter) level(s stage, jobs []job, turns int) {
	var inner []instance
	for _, j := range jobs {
		for i := s.from; i < turns; i++ {
			if s.inner != nil {
				inner = append(inner, s.instance(j, i))
			} else {
				e.Steps = append(e.Steps, s.step(j, i))
			}
		}
	}
	if s.inner != nil {
		e.wide(s.inner, inner)
	}
}

// begin takes an instance's regions.
func (e *emitter) begin(p *part, at instance) job {
	j := job{instance: at}
	for i, size := range p.regions {
		j.own[i] = e.next
		e.next += size
	}
	return j
}
