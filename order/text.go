package order

import (
	"strconv"

	"timbre/api"
)

const sixDigits = 100000 // the least number that has as many digits as a number may have

// Text is an order's text.
func Text(o api.Order) (string, error) {
	if err := Check(o); err != nil {
		return "", err
	}
	return string(appendText(nil, o)), nil
}

// appendText writes the text of a good order behind out.
func appendText(out []byte, o api.Order) []byte {
	switch o.Kind {
	case api.OrderDirect:
		return appendNumber(out, 'd', o.N)
	case api.OrderFly:
		return appendNumber(out, 'f', o.N)
	case api.OrderTimes:
		out = appendText(append(out, '('), o.Kids[0])
		out = appendText(append(out, " x "...), o.Kids[1])
	default:
		out = appendNumber(out, 'b', o.N)
		out = appendText(append(out, '('), o.Kids[0])
	}
	return append(out, ')')
}

func appendNumber(out []byte, letter byte, n int) []byte {
	return strconv.AppendInt(append(out, letter), int64(n), 10)
}

// Parse is the order of a text; with an error the place.
func Parse(s string) (api.Order, int, error) {
	if len(s) > api.MaxText {
		return api.Order{}, 0, api.ErrLimit
	}
	o, at, err := read(s)
	if err != nil {
		return api.Order{}, at, err
	}
	if err := Check(o); err != nil {
		return api.Order{}, 0, err
	}
	return o, 0, nil
}

// read is the order that a text tells, good or not; ErrText and the place, if the text isn't of an order's form.
func read(s string) (o api.Order, at int, err error) {
	r := reader{text: s}
	defer func() {
		if gaveUp := recover(); gaveUp != nil {
			o, at, err = api.Order{}, r.at, api.ErrText
		}
	}()
	o = r.order()
	if r.at < len(s) {
		r.giveUp()
	}
	return o, 0, nil
}

// reader reads a text byte by byte, and goes behind a byte only where it may stand: so it gives up at the first one that may not, or at the end.
type reader struct {
	text string
	at   int
}

func (r *reader) giveUp() { panic(api.ErrText) }

// order makes its answers without Times and Blue, which would copy what is below them again on each level.
func (r *reader) order() api.Order {
	var o api.Order
	switch {
	case r.takes('d'):
		o = Direct(r.number())
	case r.takes('f'):
		o = Fly(r.number())
	case r.takes('('):
		first := r.order()
		r.needs(" x ")
		o = api.Order{Kind: api.OrderTimes, Kids: []api.Order{first, r.order()}}
		r.needs(")")
	case r.takes('b'):
		n := r.number()
		r.needs("(")
		o = api.Order{Kind: api.OrderBlue, N: n, Kids: []api.Order{r.order()}}
		r.needs(")")
	default:
		r.giveUp()
	}
	return o
}

// number leaves a seventh digit to whoever reads on: nothing that may follow a number begins with one.
func (r *reader) number() int {
	n := 0
	for n < sixDigits && r.at < len(r.text) {
		digit := int(r.text[r.at]) - '0'
		if digit < 0 || digit > 9 || n == 0 && digit == 0 {
			break
		}
		n = 10*n + digit
		r.at++
	}
	if n == 0 {
		r.giveUp()
	}
	return n
}

// takes goes behind the next byte, if it is this one.
func (r *reader) takes(b byte) bool {
	if r.at == len(r.text) || r.text[r.at] != b {
		return false
	}
	r.at++
	return true
}

func (r *reader) needs(s string) {
	for i := range len(s) {
		if !r.takes(s[i]) {
			r.giveUp()
		}
	}
}
