package plan

import (
	"strings"

	"timbre/api"
	"timbre/order"
	"timbre/pack"
	"timbre/steps"
)

// words are those of the ways, with which plans' texts begin.
var words = [...]string{api.Deep: "deep ", api.Wide: "wide "}

// Parse is the plan of a text.
func Parse(s string) (*Plan, error) {
	for way, word := range words {
		told, ok := strings.CutPrefix(s, word)
		if !ok {
			continue
		}
		o, _, err := order.Parse(told)
		if err != nil { // a text of too many bytes, or an order that isn't good: this is no text of a plan
			return nil, api.ErrText
		}
		return Of(o, way)
	}
	return nil, api.ErrText
}

// Text is its text.
func (p *Plan) Text() string {
	s, _ := order.Text(p.order) // not refused: the order is good
	return words[p.way] + s
}

// Decode is the plan of these bytes. What its text tells is reckoned anew: the program in the bytes is only held against that.
func Decode(b []byte) (*Plan, error) {
	r := pack.Read(b)
	s, err := r.Text(api.MaxText)
	if err != nil {
		return nil, err
	}
	program, err := steps.Decode(b[r.At():])
	if err != nil {
		return nil, err
	}
	p, err := Parse(s)
	if err != nil {
		return nil, err
	}
	if !steps.Same(p.program, program) {
		return nil, api.ErrProgram
	}
	return p, nil
}

// Encode is its bytes.
func (p *Plan) Encode() []byte {
	w := pack.New()
	w.Text(p.Text())
	program, _ := steps.Encode(p.program) // not refused: what is compiled is in form
	return append(w.Out(), program...)
}
