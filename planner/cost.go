package planner

import (
	"timbre/api"
	"timbre/fly"
	"timbre/order"
)

const (
	mostCost = 1 << 62
	tooMuch  = mostCost + 1 // stands for every cost above mostCost, which may be no int
)

// Cost is what an order costs; it refuses one that isn't good, and one that costs more than 2^62.
func Cost(o api.Order) (int, error) {
	if err := order.Check(o); err != nil {
		return 0, err
	}
	c := measure(o).cost
	if c > mostCost {
		return 0, api.ErrLimit
	}
	return c, nil
}

// measures are what of an order counts for the cost of one of which it is a part.
type measures struct {
	length int
	cost   int // at most tooMuch
}

// measure measures a good order.
func measure(o api.Order) measures {
	switch o.Kind {
	case api.OrderDirect:
		return measures{o.N, 8 * o.N * o.N}
	case api.OrderFly:
		added, multiplied := fly.Work(o.N)
		return measures{o.N, added + multiplied}
	case api.OrderTimes:
		return product(measure(o.Kids[0]), measure(o.Kids[1]), o.Kids[0].Kind == api.OrderFly)
	default:
		m := measure(o.Kids[0])
		return measures{o.N, sum(times(3, m.cost), 12*o.N+10*m.length)}
	}
}

func product(a, b measures, byFly bool) measures {
	length := a.length * b.length
	twists := 6 * (a.length - 1) * (b.length - 1)
	cost := sum(sum(times(a.length, b.cost), times(b.length, a.cost)), twists)
	if !byFly {
		cost = sum(cost, length)
	}
	return measures{length, cost}
}

// sum is the sum of two costs.
func sum(a, b int) int {
	if a > tooMuch-b {
		return tooMuch
	}
	return a + b
}

// times is a cost n times, n being 1 at least.
func times(n, cost int) int {
	if cost > tooMuch/n {
		return tooMuch
	}
	return n * cost
}
