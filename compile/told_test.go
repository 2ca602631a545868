package compile

import (
	"container/heap"
	"math/rand"
	"slices"
	"testing"

	"timbre/api"
	"timbre/order"
	"timbre/planner"
	"timbre/steps"
)

// The chapter's words in another shape: every step and every instance is made with a key that says where it stands, in whatever order; the keys are sorted behind that.

// made is what a stage makes in a turn: a step, or an instance of a Kid.
type made struct {
	round int // the stages of one round are gone through together in the deep way
	stage int
	turn  int
	step  api.Step
	kid   *api.Order
	at    [3]int // the instance: src, jump, dst
}

func lengthOf(o api.Order) int {
	if o.Kind == api.OrderTimes {
		return lengthOf(o.Kids[0]) * lengthOf(o.Kids[1])
	}
	return o.N
}

// sizesOf are the sizes of an instance's regions.
func sizesOf(o api.Order, way int) []int {
	switch {
	case o.Kind == api.OrderBlue:
		m := lengthOf(o.Kids[0])
		return []int{m, m, m, m}
	case o.Kind == api.OrderTimes && o.Kids[0].Kind != api.OrderFly && way == api.Deep:
		return []int{lengthOf(o), lengthOf(o.Kids[0])}
	case o.Kind == api.OrderTimes && o.Kids[0].Kind != api.OrderFly:
		return []int{lengthOf(o), lengthOf(o)}
	}
	return nil
}

// stagesOf is all that the stages of an instance make.
func stagesOf(o api.Order, way int, at [3]int, own []int) []made {
	src, jump, dst := at[0], at[1], at[2]
	n := lengthOf(o)
	switch o.Kind {
	case api.OrderDirect:
		return []made{{stage: 1, step: api.Step{Op: 6, Dst: dst, Src: src, Jump: jump, Count: n, N: n}}}
	case api.OrderFly:
		return []made{
			{round: 2, stage: 2, step: api.Step{Op: 5, Dst: dst, Jump: 1, Count: 1, N: n}},
			{round: 1, stage: 1, step: api.Step{Op: 1, Dst: dst, Src: src, Jump: jump, Count: n}},
		}
	case api.OrderBlue:
		return bluesOf(o, at, own)
	}
	return timesOf(o, way, at, own)
}

func timesOf(o api.Order, way int, at [3]int, own []int) []made {
	src, jump, dst := at[0], at[1], at[2]
	a, b := lengthOf(o.Kids[0]), lengthOf(o.Kids[1])
	flown := o.Kids[0].Kind == api.OrderFly
	into := dst
	if !flown {
		into = own[0]
	}
	var out []made
	for j := a - 1; j >= 0; j-- {
		if j > 0 {
			out = append(out, made{round: 1, stage: 2, turn: j, step: api.Step{Op: 4, Dst: into + j*b, Count: b, N: a * b, K: j}})
		}
		out = append(out, made{round: 1, stage: 1, turn: j, kid: &o.Kids[1], at: [3]int{src + j*jump, jump * a, into + j*b}})
	}
	if flown {
		return append(out, made{round: 2, stage: 3, step: api.Step{Op: 5, Dst: dst, Jump: b, Count: b, N: a}})
	}
	for k := range b {
		z := own[1]
		if way == api.Wide {
			z += k * a
		}
		out = append(out,
			made{round: 2, stage: 4, turn: k, step: api.Step{Op: 2, Dst: dst + k, Src: z, Jump: b, Count: a}},
			made{round: 2, stage: 3, turn: k, kid: &o.Kids[0], at: [3]int{own[0] + k, b, z}},
		)
	}
	return out
}

func bluesOf(o api.Order, at [3]int, own []int) []made {
	n, m := o.N, lengthOf(o.Kids[0])
	u, v, p, q := own[0], own[1], own[2], own[3]
	out := []made{
		{stage: 13, step: api.Step{Op: 7, Dst: at[2], Count: n, N: n}},
		{stage: 12, step: api.Step{Op: 1, Dst: at[2], Src: u, Jump: 1, Count: n}},
		{stage: 11, step: api.Step{Op: 11, Dst: u, Count: n, N: m}},
		{stage: 10, step: api.Step{Op: 10, Dst: u, Count: n}},
		{stage: 9, kid: &o.Kids[0], at: [3]int{p, 1, u}},
		{stage: 8, step: api.Step{Op: 10, Dst: p, Count: m}},
		{stage: 7, step: api.Step{Op: 9, Dst: p, Src: q, Count: m}},
		{stage: 6, kid: &o.Kids[0], at: [3]int{v, 1, q}},
		{stage: 5, step: api.Step{Op: 8, Dst: v, Count: m, N: n}},
		{stage: 4, kid: &o.Kids[0], at: [3]int{u, 1, p}},
		{stage: 3, step: api.Step{Op: 7, Dst: u, Count: n, N: n}},
		{stage: 2, step: api.Step{Op: 3, Dst: u + n, Count: m - n}},
		{stage: 1, step: api.Step{Op: 1, Dst: u, Src: at[0], Jump: at[1], Count: n}},
	}
	for i := range out {
		out[i].round = out[i].stage
	}
	return out
}

// keyed is a step or an instance with its key: in the deep way first alone, in the wide way the stages ahead of the turns.
type keyed struct {
	first, second []int
	made
}

func byKeys(x, y keyed) int {
	if c := slices.Compare(x.first, y.first); c != 0 {
		return c
	}
	return slices.Compare(x.second, y.second)
}

func longer(key []int, more ...int) []int { return append(slices.Clone(key), more...) }

type queue []keyed

func (q queue) Len() int           { return len(q) }
func (q queue) Less(i, j int) bool { return byKeys(q[i], q[j]) < 0 }
func (q queue) Swap(i, j int)      { q[i], q[j] = q[j], q[i] }
func (q *queue) Push(x any)        { *q = append(*q, x.(keyed)) }
func (q *queue) Pop() any {
	last := (*q)[len(*q)-1]
	*q = (*q)[:len(*q)-1]
	return last
}

// told is the program of a good order, however great it is.
func told(o api.Order, way int) api.Program {
	n := lengthOf(o)
	p := api.Program{Length: n, Cells: 2 * n, Out: n}
	whole := keyed{made: made{kid: &o, at: [3]int{0, 1, n}}}
	var all []keyed
	if way == api.Deep {
		all = toldDeep(&p, whole, 2*n)
	} else {
		all = toldWide(&p, whole)
	}
	slices.SortFunc(all, byKeys)
	for _, k := range all {
		p.Steps = append(p.Steps, k.step)
	}
	return p
}

// regionsFrom are regions of these sizes, one behind the other, and the cell behind them.
func regionsFrom(next int, sizes []int) ([]int, int) {
	var own []int
	for _, size := range sizes {
		own = append(own, next)
		next += size
	}
	return own, next
}

func toldDeep(p *api.Program, x keyed, next int) []keyed {
	own, next := regionsFrom(next, sizesOf(*x.kid, api.Deep))
	p.Cells = max(p.Cells, next)
	var all []keyed
	for _, m := range stagesOf(*x.kid, api.Deep, x.at, own) {
		inner := keyed{first: longer(x.first, m.round, m.turn, m.stage), made: m}
		if m.kid == nil {
			all = append(all, inner)
		} else {
			all = append(all, toldDeep(p, inner, next)...)
		}
	}
	return all
}

func toldWide(p *api.Program, whole keyed) []keyed {
	var all []keyed
	open := &queue{whole}
	for open.Len() > 0 {
		x := heap.Pop(open).(keyed)
		var own []int
		own, p.Cells = regionsFrom(p.Cells, sizesOf(*x.kid, api.Wide))
		for _, m := range stagesOf(*x.kid, api.Wide, x.at, own) {
			inner := keyed{first: longer(x.first, m.stage), second: longer(x.second, m.turn), made: m}
			if m.kid == nil {
				all = append(all, inner)
			} else {
				heap.Push(open, inner)
			}
		}
	}
	return all
}

// holds compiles an order in both ways and holds the programs against what is told.
func holds(t *testing.T, o api.Order) (deep, wide api.Program) {
	t.Helper()
	var got [2]api.Program
	for _, way := range ways {
		got[way] = compiled(t, o, way)
		want := told(o, way)
		if steps.Same(got[way], want) {
			continue
		}
		s, _ := order.Text(o)
		for i := range min(len(got[way].Steps), len(want.Steps)) {
			if got[way].Steps[i] != want.Steps[i] {
				t.Fatalf("way %d of %s: step %d is %+v, want %+v", way, s, i, got[way].Steps[i], want.Steps[i])
			}
		}
		t.Fatalf("way %d of %s: %d steps, %+v, want %d, %+v", way, s, len(got[way].Steps), got[way], len(want.Steps), want)
	}
	return got[api.Deep], got[api.Wide]
}

// smallOrders are all orders of few leaves, up to so many levels of products and Bluestein's way.
func smallOrders(leaves []api.Order, levels int) []api.Order {
	all := slices.Clone(leaves)
	for range levels {
		var more []api.Order
		for _, a := range all {
			for _, b := range all {
				more = append(more, order.Times(a, b))
			}
			for n := 2; 2*n-1 <= lengthOf(a) && n <= 4; n++ {
				more = append(more, order.Blue(n, a))
			}
		}
		for _, o := range more {
			if lengthOf(o) <= 64 && order.Depth(o) <= levels+1 && !slices.ContainsFunc(all, func(p api.Order) bool { return order.Same(o, p) }) {
				all = append(all, o)
			}
		}
	}
	return all
}

// anyOrder is any good order of at least 2, at most that many levels deep.
func anyOrder(r *rand.Rand, levels int) api.Order {
	switch kind := r.Intn(8); {
	case levels > 1 && kind < 4:
		a, b := anyOrder(r, levels-1), anyOrder(r, levels-1)
		if lengthOf(a)*lengthOf(b) <= 2000 {
			return order.Times(a, b)
		}
		return b
	case levels > 1 && kind < 6:
		m := anyOrder(r, levels-1)
		if most := (lengthOf(m) + 1) / 2; most >= 2 {
			return order.Blue(2+r.Intn(most-1), m)
		}
		return m
	case kind == 6:
		return order.Direct(2 + r.Intn(63)>>r.Intn(6))
	}
	return order.Fly(2 + r.Intn(4))
}

// fits tells whether an order's programs are within so many steps and cells, in both ways.
func fits(o api.Order, mostSteps, mostCells int) bool {
	for _, way := range ways {
		p, err := Program(o, way)
		if err != nil || len(p.Steps) > mostSteps || p.Cells > mostCells {
			return false
		}
	}
	return true
}

func TestLeaves(t *testing.T) {
	for n := 1; n <= 64; n++ {
		holds(t, order.Direct(n))
	}
	for r := 2; r <= 5; r++ {
		holds(t, order.Fly(r))
	}
}

func TestSmallOrders(t *testing.T) {
	count := 0
	for _, o := range smallOrders([]api.Order{order.Direct(2), order.Direct(3), order.Fly(2), order.Fly(3), order.Fly(4)}, 2) {
		holds(t, o)
		count++
	}
	if count < 500 {
		t.Error("so few small orders:", count)
	}
}

func TestPairsOfAllLeaves(t *testing.T) {
	for a := 2; a <= 64; a++ {
		for b := 2; b <= 64; b += 1 + b/7 {
			holds(t, order.Times(order.Direct(a), order.Direct(b)))
			if a <= 5 {
				holds(t, order.Times(order.Fly(a), order.Direct(b)))
				holds(t, order.Times(order.Direct(b), order.Fly(a)))
			}
		}
		for n := 2; 2*n-1 <= a; n++ {
			holds(t, order.Blue(n, order.Direct(a)))
		}
	}
}

func TestAnyOrders(t *testing.T) {
	r := rand.New(rand.NewSource(17))
	met := 0
	for range 3000 {
		if o := anyOrder(r, 1+r.Intn(6)); fits(o, 4000, api.MaxCells) {
			holds(t, o)
			met++
		}
	}
	if met < 2000 {
		t.Error("so few orders that fit:", met)
	}
}

// The usual choices of some lengths; P14.5 and P8 ask for all of them, which is tested by the limits.
func TestUsualChoices(t *testing.T) {
	for n := 1; n <= api.MaxLen; n += 1 + n/9 {
		o, err := planner.Choose(n, planner.Usual())
		if err != nil {
			t.Fatal(n, err)
		}
		holds(t, o)
	}
}

// A product has at most 14 levels, since each level doubles its length at least.
func TestDeepTrees(t *testing.T) {
	right := order.Fly(2)
	left := order.Direct(2)
	for levels := 2; levels <= 14; levels++ {
		right = order.Times(order.Fly(2), right)
		holds(t, right)
		if left = order.Times(left, order.Fly(2)); levels <= 10 {
			holds(t, left)
		}
	}
	blues := order.Direct(33)
	for n := 17; n >= 2; n = n/2 + 1 {
		if blues = order.Blue(n, blues); n == 2 {
			break
		}
	}
	holds(t, blues) // 2, 3, 5, 9, 17 and 33
}
