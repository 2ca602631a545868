package planner

import (
	"testing"

	"timbre/api"
	"timbre/order"
)

// needs are what a program of an order takes, by chapter 17: its steps and acts, and the cells of its regions in the deep and in the wide way.
type needs struct {
	length, steps, acts, deep, wide int
}

func needsOf(o api.Order) needs {
	switch o.Kind {
	case api.OrderDirect:
		return needs{length: o.N, steps: 1, acts: o.N}
	case api.OrderFly:
		return needs{length: o.N, steps: 2, acts: o.N + 1}
	case api.OrderTimes:
		a, b := needsOf(o.Kids[0]), needsOf(o.Kids[1])
		if o.Kids[0].Kind == api.OrderFly {
			return needsOfFlown(a.length, b)
		}
		return needsOfProduct(a, b)
	}
	m := needsOf(o.Kids[0])
	return needs{
		length: o.N,
		steps:  3*m.steps + 10,
		acts:   3*m.acts + 4*m.length + 5*o.N,
		deep:   4*m.length + m.deep,
		wide:   4*m.length + 3*m.wide,
	}
}

// needsOfFlown are those of X1 to X3.
func needsOfFlown(a int, b needs) needs {
	return needs{
		length: a * b.length,
		steps:  a*b.steps + (a - 1) + 1,
		acts:   a*b.acts + (a-1)*b.length + b.length,
		deep:   b.deep,
		wide:   a * b.wide,
	}
}

// needsOfProduct are those of Y1 to Y4.
func needsOfProduct(a, b needs) needs {
	n := a.length * b.length
	return needs{
		length: n,
		steps:  a.length*b.steps + (a.length - 1) + b.length*a.steps + b.length,
		acts:   a.length*b.acts + (a.length-1)*b.length + b.length*a.acts + n,
		deep:   n + a.length + max(a.deep, b.deep),
		wide:   2*n + a.length*b.wide + b.length*a.wide,
	}
}

func TestNeedsOfTheExamples(t *testing.T) {
	for s, want := range map[string]needs{ // with the cells of the whole
		"d3":        {3, 1, 3, 6, 6},
		"f2":        {2, 2, 3, 4, 4},
		"(f2 x d3)": {6, 4, 12, 12, 12},
		"(d2 x f2)": {4, 9, 16, 14, 16},
		"b2(f4)":    {2, 16, 41, 20, 20},
	} {
		got := needsOf(parsed(t, s))
		got.deep += 2 * got.length
		got.wide += 2 * got.length
		if got != want {
			t.Errorf("%s needs %v, want %v", s, got, want)
		}
	}
}

// P14.5.
func TestUsualChoicesHaveProgramsWithinTheLimits(t *testing.T) {
	for n := 1; n <= api.MaxLen; n++ {
		o, err := Choose(n, Usual())
		if err != nil {
			t.Fatal(n, err)
		}
		if order.Depth(o) > 16 {
			t.Errorf("%d: %d levels", n, order.Depth(o))
		}
		got := needsOf(o)
		if got.length != n || got.steps > api.MaxSteps || got.acts > api.MaxActs || 2*n+got.deep > api.MaxCells || 2*n+got.wide > api.MaxCells {
			t.Errorf("%d: %v needs %v", n, o, got)
		}
	}
}
