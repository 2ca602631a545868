package steps

import (
	"timbre/api"
	"timbre/pack"
)

const (
	heads     = 4 // the numbers of a program ahead of its steps
	fields    = 6 // the fields of a step, its Op aside
	leastStep = 3 // bytes of the shortest step: its Op, Dst and Count
)

// Encode is the bytes of a program in form.
func Encode(p api.Program) ([]byte, error) {
	if !inForm(p) {
		return nil, api.ErrProgram
	}
	w := pack.New()
	for _, x := range head(p) {
		w.Uint(uint64(x))
	}
	w.Uint(uint64(len(p.Steps)))
	for _, s := range p.Steps {
		writeStep(w, s)
	}
	return w.Out(), nil
}

// Decode is the program of these bytes; whatever is wrong with them, the answer is ErrProgram.
func Decode(b []byte) (api.Program, error) {
	r := pack.Read(b)
	p, err := readProgram(r)
	if err != nil || r.Done() != nil {
		return api.Program{}, api.ErrProgram
	}
	return p, nil
}

func inForm(p api.Program) bool {
	for _, x := range head(p) {
		if !within(x, 0, api.MaxCells) {
			return false
		}
	}
	if len(p.Steps) > api.MaxSteps {
		return false
	}
	for _, s := range p.Steps {
		if Form(s) != nil {
			return false
		}
	}
	return true
}

// writeStep writes a step in form.
func writeStep(w *pack.Writer, s api.Step) {
	w.Uint(uint64(s.Op))
	has := operations[s.Op].has()
	for i, x := range numbers(s) {
		if has[i] {
			w.Uint(uint64(x))
		}
	}
}

func readProgram(r *pack.Reader) (api.Program, error) {
	p, err := readHead(r)
	if err != nil {
		return api.Program{}, err
	}
	count, err := r.Upto(api.MaxSteps)
	if err != nil {
		return api.Program{}, err
	}
	p.Steps = make([]api.Step, 0, min(count, r.Left()/leastStep)) // no more room than bytes are there for
	for range count {
		s, err := readStep(r)
		if err != nil {
			return api.Program{}, err
		}
		p.Steps = append(p.Steps, s)
	}
	return p, nil
}

// readHead reads what stands ahead of the number of steps.
func readHead(r *pack.Reader) (api.Program, error) {
	var read [heads]int
	for i := range read {
		x, err := r.Upto(api.MaxCells)
		if err != nil {
			return api.Program{}, err
		}
		read[i] = x
	}
	return api.Program{Length: read[0], Cells: read[1], In: read[2], Out: read[3]}, nil
}

// readStep reads a step in form. No field of one is above MaxCells, whatever its operation; what else is asked of it hangs on fields behind, so Form asks it in the end.
func readStep(r *pack.Reader) (api.Step, error) {
	op, err := r.Upto(len(operations) - 1)
	if err != nil {
		return api.Step{}, err
	}
	var read [fields]int
	for i, had := range operations[op].has() {
		if !had {
			continue
		}
		x, err := r.Upto(api.MaxCells)
		if err != nil {
			return api.Step{}, err
		}
		read[i] = x
	}
	s := stepOf(op, read)
	return s, Form(s)
}

// head is the numbers of a program ahead of its steps, in the order of its bytes.
func head(p api.Program) [heads]int {
	return [heads]int{p.Length, p.Cells, p.In, p.Out}
}

// has tells of each field, in the order of a step's bytes, whether the operation has it.
func (o operation) has() [fields]bool {
	return [fields]bool{true, o.src, o.jump, true, o.n, o.k}
}

// numbers are a step's fields, in the order of its bytes.
func numbers(s api.Step) [fields]int {
	return [fields]int{s.Dst, s.Src, s.Jump, s.Count, s.N, s.K}
}

// stepOf is the step of an operation with these fields, as numbers tells them.
func stepOf(op int, x [fields]int) api.Step {
	return api.Step{Op: op, Dst: x[0], Src: x[1], Jump: x[2], Count: x[3], N: x[4], K: x[5]}
}
