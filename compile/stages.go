package compile

import "timbre/api"

// part is an order as it is done: the regions of an instance, and its stages, in rounds.
type part struct {
	length  int
	regions []int // how many cells each one has
	rounds  []round
	needs   needs
}

// round is stages that go through the same turns. The deep way goes through them together, turn by turn; the wide way through one behind the other.
type round struct {
	turns  int
	stages []stage
}

// stage makes, each turn, an instance of the inner part, or, if there is none, a step.
type stage struct {
	from     int // the first turn in which there is something to do
	inner    *part
	instance func(j job, i int) instance
	step     func(j job, i int) api.Step
}

// instance is where an order is done: the list stands in the cells from src on, jump apart, and its transform shall stand in those from dst on.
type instance struct{ src, jump, dst int }

// job is an instance with its own regions: the first cell of each.
type job struct {
	instance
	own [4]int
}

// The regions of a product whose first order is no butterfly.
const (
	regionT = iota
	regionZ
)

// The regions of Bluestein's way.
const (
	regionU = iota
	regionV
	regionP
	regionQ
)

// partOf is how a good order is done in a way.
func partOf(o api.Order, way int) *part {
	p := unmeasured(o, way)
	p.needs = needsOf(p, way)
	return p
}

// unmeasured is that, what it needs aside.
func unmeasured(o api.Order, way int) *part {
	switch o.Kind {
	case api.OrderDirect:
		return sum(o.N)
	case api.OrderFly:
		return butterfly(o.N)
	case api.OrderBlue:
		return bluestein(o.N, partOf(o.Kids[0], way))
	}
	first, second := o.Kids[0], partOf(o.Kids[1], way)
	if first.Kind == api.OrderFly {
		return flown(first.N, second)
	}
	return product(partOf(first, way), second, way)
}

// sum is stage D1.
func sum(n int) *part {
	return &part{length: n, rounds: []round{
		once(func(j job) api.Step {
			return api.Step{Op: api.OpDirect, Dst: j.dst, Src: j.src, Jump: j.jump, Count: n, N: n}
		}),
	}}
}

// butterfly is the stages F1 and F2.
func butterfly(r int) *part {
	return &part{length: r, rounds: []round{
		once(func(j job) api.Step {
			return api.Step{Op: api.OpGather, Dst: j.dst, Src: j.src, Jump: j.jump, Count: r}
		}),
		once(func(j job) api.Step {
			return api.Step{Op: api.OpFly, Dst: j.dst, Jump: 1, Count: 1, N: r}
		}),
	}}
}

// flown is the stages X1 to X3.
func flown(a int, second *part) *part {
	b := second.length
	return &part{length: a * b, rounds: []round{
		seconds(a, second, func(j job) int { return j.dst }),
		once(func(j job) api.Step {
			return api.Step{Op: api.OpFly, Dst: j.dst, Jump: b, Count: b, N: a}
		}),
	}}
}

// product is the stages Y1 to Y4.
func product(first, second *part, way int) *part {
	a, b := first.length, second.length
	n := a * b
	sizeOfZ, apart := a, 0 // in the deep way all instances of the first order are done in the same cells
	if way == api.Wide {
		sizeOfZ, apart = n, a
	}
	firsts := stage{inner: first, instance: func(j job, k int) instance {
		return instance{src: j.own[regionT] + k, jump: b, dst: j.own[regionZ] + k*apart}
	}}
	scatter := stage{step: func(j job, k int) api.Step {
		return api.Step{Op: api.OpScatter, Dst: j.dst + k, Src: j.own[regionZ] + k*apart, Jump: b, Count: a}
	}}
	return &part{length: n, regions: []int{n, sizeOfZ}, rounds: []round{
		seconds(a, second, func(j job) int { return j.own[regionT] }),
		{turns: b, stages: []stage{firsts, scatter}},
	}}
}

// seconds does the second order of a product a times, one behind the other from a cell on, and twists all but the first: X1 and X2, Y1 and Y2.
func seconds(a int, second *part, from func(j job) int) round {
	b := second.length
	done := stage{inner: second, instance: func(j job, i int) instance {
		return instance{src: j.src + i*j.jump, jump: a * j.jump, dst: from(j) + i*b}
	}}
	twist := stage{from: 1, step: func(j job, i int) api.Step {
		return api.Step{Op: api.OpTwist, Dst: from(j) + i*b, Count: b, N: a * b, K: i}
	}}
	return round{turns: a, stages: []stage{done, twist}}
}

// bluestein is the stages B1 to B13.
func bluestein(n int, inner *part) *part {
	m := inner.length
	return &part{length: n, regions: []int{m, m, m, m}, rounds: []round{
		once(func(j job) api.Step {
			return api.Step{Op: api.OpGather, Dst: j.own[regionU], Src: j.src, Jump: j.jump, Count: n}
		}),
		once(func(j job) api.Step { return api.Step{Op: api.OpZero, Dst: j.own[regionU] + n, Count: m - n} }),
		once(func(j job) api.Step { return api.Step{Op: api.OpChirp, Dst: j.own[regionU], Count: n, N: n} }),
		between(inner, regionU, regionP),
		once(func(j job) api.Step { return api.Step{Op: api.OpFill, Dst: j.own[regionV], Count: m, N: n} }),
		between(inner, regionV, regionQ),
		once(func(j job) api.Step {
			return api.Step{Op: api.OpTimes, Dst: j.own[regionP], Src: j.own[regionQ], Count: m}
		}),
		once(func(j job) api.Step { return api.Step{Op: api.OpConj, Dst: j.own[regionP], Count: m} }),
		between(inner, regionP, regionU),
		once(func(j job) api.Step { return api.Step{Op: api.OpConj, Dst: j.own[regionU], Count: n} }),
		once(func(j job) api.Step { return api.Step{Op: api.OpOver, Dst: j.own[regionU], Count: n, N: m} }),
		once(func(j job) api.Step {
			return api.Step{Op: api.OpGather, Dst: j.dst, Src: j.own[regionU], Jump: 1, Count: n}
		}),
		once(func(j job) api.Step { return api.Step{Op: api.OpChirp, Dst: j.dst, Count: n, N: n} }),
	}}
}

// once is a stage of one step for each instance.
func once(step func(j job) api.Step) round {
	return round{turns: 1, stages: []stage{{step: func(j job, _ int) api.Step { return step(j) }}}}
}

// between does a part from one of the regions into another.
func between(inner *part, from, into int) round {
	return round{turns: 1, stages: []stage{{inner: inner, instance: func(j job, _ int) instance {
		return instance{src: j.own[from], jump: 1, dst: j.own[into]}
	}}}}
}
