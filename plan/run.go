package plan

import (
	"timbre/api"
	"timbre/cplx"
	"timbre/machine"
	"timbre/pack"
)

// Run is a transform under way. It is used by one goroutine at a time.
type Run struct {
	plan    *Plan
	inverse bool
	engine  *machine.Machine // of the plan's program; the list was laid into it conjugated, if the run is inverse
}

// Begin begins the transform of x, or the inverse one.
func (p *Plan) Begin(x []complex128, inverse bool) (*Run, error) {
	if len(x) != p.Length() {
		return nil, api.ErrLength
	}
	if inverse {
		x = conjugated(x)
	}
	engine, _ := machine.New(p.program) // not refused: what is compiled is good
	engine.Load(x)                      // not refused: it is as long as the program's lists
	return &Run{plan: p, inverse: inverse, engine: engine}, nil
}

// Resume takes a run up again that was saved.
func (p *Plan) Resume(state []byte) (*Run, error) {
	r := pack.Read(state)
	inverse, err := r.Upto(1)
	if err != nil {
		return nil, api.ErrState
	}
	own := p.Text()
	s, err := r.Text(len(own))
	if err != nil || s != own {
		return nil, api.ErrState
	}
	engine, err := machine.Resume(p.program, state[r.At():])
	if err != nil {
		return nil, api.ErrState
	}
	return &Run{plan: p, inverse: inverse == 1, engine: engine}, nil
}

// Do does at most so many acts: how many it did. It refuses a number below 0, and any number where no act is left.
func (r *Run) Do(acts int) (int, error) { return r.engine.Run(acts) }

// Left is how many acts are left.
func (r *Run) Left() int { return r.engine.Left() }

// Result is the answer; it is refused while acts are left.
func (r *Run) Result() ([]complex128, error) {
	y, err := r.engine.Out()
	if err != nil {
		return nil, err
	}
	if r.inverse {
		y = conjugated(y)
		for k := range y {
			y[k] = cplx.Over(y[k], len(y))
		}
	}
	return y, nil
}

// Save is the run as bytes.
func (r *Run) Save() []byte {
	w := pack.New()
	if r.inverse {
		w.Uint(1)
	} else {
		w.Uint(0)
	}
	w.Text(r.plan.Text())
	return append(w.Out(), r.engine.State()...)
}

func conjugated(x []complex128) []complex128 {
	out := make([]complex128, len(x))
	for k, a := range x {
		out[k] = cplx.Conj(a)
	}
	return out
}
