package crew

import (
	"timbre/api"
	"timbre/plan"
	"timbre/roots"
)

// Split transforms one list, its order's outermost parts done by so many workers.
func Split(o api.Order, x []complex128, workers int) ([]complex128, error) {
	if !canWork(workers) {
		return nil, api.ErrWorkers
	}
	p, err := plan.Of(o, api.Deep)
	if err != nil {
		return nil, err
	}
	if len(x) != p.Length() {
		return nil, api.ErrLength
	}
	if o.Kind != api.OrderTimes {
		return p.Forward(x)
	}
	// Neither part is refused: what each has stands, at the least once, in the program of the whole.
	outer, _ := plan.Of(o.Kids[0], api.Deep)
	inner, _ := plan.Of(o.Kids[1], api.Deep)
	return inTwo(outer, inner, x, workers), nil
}

// inTwo is the transform of x by the product of two plans' orders. The plans take all that they are given: the lists are of their lengths.
func inTwo(outer, inner *plan.Plan, x []complex128, workers int) []complex128 {
	n, a, b := len(x), outer.Length(), inner.Length()
	twisted := make([][]complex128, a)
	share(a, workers, func(j int) {
		y, _ := inner.Forward(every(x, j, a))
		for k := range y {
			y[k], _ = roots.Twist(y[k], n, j*k)
		}
		twisted[j] = y
	})
	out := make([]complex128, n)
	share(b, workers, func(k int) {
		z, _ := outer.Forward(across(twisted, k))
		for q, v := range z {
			out[k+b*q] = v
		}
	})
	return out
}

// every is each element of x that is so many jumps behind the one at from.
func every(x []complex128, from, jump int) []complex128 {
	var out []complex128
	for i := from; i < len(x); i += jump {
		out = append(out, x[i])
	}
	return out
}

// across is the element k of each list.
func across(lists [][]complex128, k int) []complex128 {
	out := make([]complex128, len(lists))
	for j, list := range lists {
		out[j] = list[k]
	}
	return out
}
