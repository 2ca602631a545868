package crew

import (
	"math"
	"math/rand"
	"strings"
	"testing"

	"timbre/api"
	"timbre/order"
	"timbre/plan"
	"timbre/planner"
)

// holdSplit holds Split against plans of both ways, for some numbers of workers.
func holdSplit(t *testing.T, o api.Order, x []complex128, workers ...int) {
	t.Helper()
	for _, way := range ways {
		p := must(plan.Of(o, way))
		want := must(p.Forward(x))
		for _, w := range workers {
			if got, err := Split(o, x, w); err != nil || !alike(got, want) {
				t.Fatalf("Split by %s, %d workers, of %v is %v, %v, want %v", p.Text(), w, x, got, err, want)
			}
		}
	}
}

// P21.3: products whose parts are of all kinds, and orders that aren't products.
func TestSplit(t *testing.T) {
	r := rand.New(rand.NewSource(5))
	parts := []api.Order{order.Direct(2), order.Direct(3), order.Direct(7), order.Fly(2), order.Fly(3), order.Fly(4), order.Fly(5), parsed("b2(f3)"), parsed("b5((d3 x f3))"), parsed("(f2 x d3)"), parsed("(d2 x f3)"), parsed("((f2 x f2) x b3(f5))")}
	orders := append([]api.Order{order.Direct(1), order.Direct(64), parsed("b11((f4 x (f4 x f2)))")}, parts...)
	for _, a := range parts {
		for _, b := range parts {
			orders = append(orders, order.Times(a, b))
		}
	}
	for range 150 {
		orders = append(orders, anyOrder(r, 2+r.Intn(3)))
	}
	for _, o := range orders {
		holdSplit(t, o, anyList(r, order.Length(o), false), anyWorkers...)
		holdSplit(t, o, anyList(r, order.Length(o), true), 1+r.Intn(api.MaxWorkers))
	}
}

func TestSplitOfUsualOrders(t *testing.T) {
	r := rand.New(rand.NewSource(6))
	for _, n := range []int{1, 2, 6, 96, 97, 360, 720, 1000, 1024, 2187, 3125, 4095, 4096} {
		o := must(planner.Choose(n, planner.Usual()))
		holdSplit(t, o, anyList(r, n, false), 1, 6)
	}
}

// Orders longer than any length that New takes.
func TestSplitOfLongOrders(t *testing.T) {
	r := rand.New(rand.NewSource(7))
	for _, s := range []string{"(d64 x (d64 x f4))", "(f2 x (f2 x (f4 x (f4 x (f4 x (f4 x f4))))))", "(((d16 x f4) x (d16 x f4)) x f3)"} {
		o := parsed(s)
		holdSplit(t, o, anyList(r, order.Length(o), false), 4)
	}
}

func TestSplitOfOddFloats(t *testing.T) {
	r := rand.New(rand.NewSource(8))
	for _, s := range []string{"f3", "(f2 x d3)", "(d2 x (f3 x f2))", "(b2(f4) x f2)"} {
		o := parsed(s)
		n := order.Length(o)
		for _, f := range []float64{nan, inf, -inf, minusZero, 0, math.MaxFloat64, -5e-324, 0x1p-1022} {
			for at := range n {
				x := anyList(r, n, false)
				x[at] = complex(f, imag(x[at]))
				holdSplit(t, o, x, 2)
				x[at] = complex(f, f)
				holdSplit(t, o, x, 2)
			}
			all := make([]complex128, n)
			for i := range all {
				all[i] = complex(f, -f)
			}
			holdSplit(t, o, all, 3)
		}
	}
}

// beyond are good orders that layer 17 refuses, though some of them have parts that it takes.
var beyond = []string{
	"(b2(f5) x b10(b40(((b4(b8((f5 x f3))) x f4) x f5))))",
	"(b3((b2(b3(f5)) x f3)) x b113((f3 x ((f3 x f5) x f5))))",
	"b4093(" + strings.Repeat("(", 12) + "d2" + strings.Repeat(" x d2)", 12) + ")",
}

// Parts that have too many cells in the wide way: they are compiled as the whole is.
func TestSplitIsDeep(t *testing.T) {
	r := rand.New(rand.NewSource(9))
	for _, s := range []string{"(f2 x b4353(((d22 x d16) x d45)))", "(b4353(((d22 x d16) x d45)) x f2)", "b4353(((d22 x d16) x d45))"} {
		o := parsed(s)
		p := must(plan.Of(o, api.Deep))
		x := anyList(r, p.Length(), false)
		if got, err := Split(o, x, 2); err != nil || !alike(got, must(p.Forward(x))) {
			t.Errorf("Split by %s: %d elements, %v", s, len(got), err)
		}
	}
}

func TestSplitRefuses(t *testing.T) {
	bad := []api.Order{{}, order.Fly(6), order.Direct(0), order.Times(order.Direct(1), order.Fly(2)), order.Times(order.Fly(2), order.Fly(6)), {Kind: api.OrderTimes, Kids: []api.Order{order.Fly(2)}}, {Kind: api.OrderTimes, N: 1, Kids: []api.Order{order.Fly(2), order.Fly(2)}}, {Kind: api.OrderTimes}}
	for _, workers := range []int{math.MinInt, -1, 0, api.MaxWorkers + 1, math.MaxInt} {
		for _, o := range append(bad, order.Fly(2)) {
			for n := range 4 {
				got, err := Split(o, make([]complex128, n), workers)
				refused(t, "a wrong number of workers", got, err, api.ErrWorkers)
			}
		}
	}
	for _, workers := range anyWorkers {
		for _, o := range bad {
			for _, n := range []int{0, 2, 6} {
				got, err := Split(o, make([]complex128, n), workers)
				refused(t, "a bad order", got, err, api.ErrOrder)
			}
		}
		for _, s := range beyond {
			for _, n := range []int{0, 7, order.Length(parsed(s))} {
				got, err := Split(parsed(s), make([]complex128, n), workers)
				refused(t, s, got, err, api.ErrProgram)
			}
		}
		for _, s := range []string{"f4", "(f2 x d2)", "b4(d7)"} {
			for _, n := range []int{0, 1, 3, 5, 7, 8} {
				got, err := Split(parsed(s), make([]complex128, n), workers)
				refused(t, "a list of another length", got, err, api.ErrLength)
			}
		}
	}
}
