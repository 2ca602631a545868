package machine

import (
	"timbre/api"
	"timbre/pack"
	"timbre/steps"
)

// State is the machine's bytes: those of its program, how many acts are done, and all cells.
func (m *Machine) State() []byte {
	w := pack.New()
	w.Text(m.packed())
	w.Uint(uint64(m.done))
	w.List(m.cells) // not refused: MaxCells is below its bound
	return w.Out()
}

// Resume is a machine of a program in such a state. It refuses a program that isn't good, and bytes that aren't those of a machine of this program, whatever its cells may hold.
func Resume(p api.Program, state []byte) (*Machine, error) {
	m, err := New(p)
	if err != nil {
		return nil, err
	}
	if !m.takes(pack.Read(state)) {
		return nil, api.ErrState
	}
	return m, nil
}

// takes reads a state of this machine's program, and tells whether it is one. The machine, which is new, is then in that state.
func (m *Machine) takes(r *pack.Reader) bool {
	own := m.packed()
	program, err := r.Text(len(own))
	if err != nil || program != own {
		return false
	}
	done, err := r.Upto(m.acts)
	if err != nil {
		return false
	}
	list, err := r.List()
	if err != nil || len(list) != len(m.cells) || r.Done() != nil {
		return false
	}
	m.cells = list
	m.pass(done)
	return true
}

// packed is the bytes of the program, as a text.
func (m *Machine) packed() string {
	b, _ := steps.Encode(m.program) // not refused: a good program is in form
	return string(b)
}
