package compile

import (
	"math"
	"math/rand"
	"slices"
	"testing"

	"timbre/api"
	"timbre/chirp"
	"timbre/cplx"
	"timbre/direct"
	"timbre/fly"
	"timbre/order"
	"timbre/planner"
	"timbre/roots"
	"timbre/steps"
)

// someOrders are orders of all kinds whose programs are short enough to be looked at cell by cell.
func someOrders(t *testing.T) []api.Order {
	t.Helper()
	all := smallOrders([]api.Order{order.Direct(2), order.Fly(2), order.Fly(3)}, 2)
	for _, c := range byHand {
		all = append(all, parsed(t, c.order))
	}
	r := rand.New(rand.NewSource(18))
	for range 400 {
		if o := anyOrder(r, 1+r.Intn(6)); fits(o, 1500, 20000) {
			all = append(all, o)
		}
	}
	for _, n := range []int{1, 2, 5, 16, 17, 36, 60, 97, 128, 131, 210, 256, 391, 720} {
		o, err := planner.Choose(n, planner.Usual())
		if err != nil {
			t.Fatal(n, err)
		}
		all = append(all, o)
	}
	return all
}

// touched are the cells that an act reads, and those that it writes, by chapter 18.
func touched(s api.Step, i int) (reads, writes []int) {
	switch s.Op {
	case api.OpGather:
		return []int{s.Src + i*s.Jump}, []int{s.Dst + i}
	case api.OpScatter:
		return []int{s.Src + i}, []int{s.Dst + i*s.Jump}
	case api.OpZero, api.OpFill:
		return nil, []int{s.Dst + i}
	case api.OpFly:
		for q := range s.N {
			reads = append(reads, s.Dst+i+q*s.Jump)
		}
		return reads, reads
	case api.OpDirect:
		for j := range s.N {
			reads = append(reads, s.Src+j*s.Jump)
		}
		return reads, []int{s.Dst + i}
	case api.OpTimes:
		return []int{s.Dst + i, s.Src + i}, []int{s.Dst + i}
	}
	return []int{s.Dst + i}, []int{s.Dst + i}
}

// goodStep tells whether a step is good for so many cells, by chapter 18; no act writes what another one writes either.
func goodStep(s api.Step, cells int) bool {
	if steps.Form(s) != nil {
		return false
	}
	writer := map[int]int{}
	for i := range s.Count {
		_, writes := touched(s, i)
		for _, c := range writes {
			if _, met := writer[c]; met || c < 0 || c >= cells {
				return false
			}
			writer[c] = i
		}
	}
	for i := range s.Count {
		reads, _ := touched(s, i)
		for _, c := range reads {
			if by, met := writer[c]; met && by != i || c < 0 || c >= cells {
				return false
			}
		}
	}
	return true
}

// P17.2.
func TestProgramsAreGood(t *testing.T) {
	for _, o := range someOrders(t) {
		for _, way := range ways {
			p := compiled(t, o, way)
			n := order.Length(o)
			if p.Length != n || p.In != 0 || p.Out != n || p.Cells < 2*n || p.Cells > api.MaxCells || len(p.Steps) > api.MaxSteps {
				t.Fatalf("way %d of %v: %d, %d cells, in %d, out %d, %d steps", way, o, p.Length, p.Cells, p.In, p.Out, len(p.Steps))
			}
			met := map[api.Step]bool{}
			for i, s := range p.Steps {
				if !met[s] && !goodStep(s, p.Cells) {
					t.Fatalf("way %d of %v: step %d is not good for %d cells: %+v", way, o, i, p.Cells, s)
				}
				met[s] = true
			}
		}
	}
}

// must is what a call of a lower layer answers beside no error.
func must[T any](x T, err error) T {
	if err != nil {
		panic(err)
	}
	return x
}

// do does the acts of a step by rising i, by chapter 19.
func do(cells []complex128, s api.Step) {
	var other []complex128
	if s.Op == api.OpFill {
		other = must(chirp.Other(s.N, s.Count))
	}
	for i := range s.Count {
		at := &cells[min(s.Dst+i, len(cells)-1)]
		switch s.Op {
		case api.OpGather:
			*at = cells[s.Src+i*s.Jump]
		case api.OpScatter:
			cells[s.Dst+i*s.Jump] = cells[s.Src+i]
		case api.OpZero:
			*at = 0
		case api.OpTwist:
			*at = must(roots.Twist(*at, s.N, s.K*i))
		case api.OpFly:
			var list []complex128
			for q := range s.N {
				list = append(list, cells[s.Dst+i+q*s.Jump])
			}
			for q, x := range must(fly.Fly(list)) {
				cells[s.Dst+i+q*s.Jump] = x
			}
		case api.OpDirect:
			*at = must(direct.At(cells, s.Src, s.Jump, s.N, i))
		case api.OpChirp:
			*at = cplx.Mul(*at, must(chirp.At(s.N, i)))
		case api.OpFill:
			*at = other[i]
		case api.OpTimes:
			*at = cplx.Mul(*at, cells[s.Src+i])
		case api.OpConj:
			*at = cplx.Conj(*at)
		case api.OpOver:
			*at = cplx.Over(*at, s.N)
		}
	}
}

// run runs a program over a list; what the other cells hold at first must not matter.
func run(p api.Program, x []complex128, first complex128) []complex128 {
	cells := make([]complex128, p.Cells)
	for i := range cells {
		cells[i] = first
	}
	copy(cells[p.In:], x)
	for _, s := range p.Steps {
		do(cells, s)
	}
	return cells[p.Out : p.Out+p.Length]
}

// transform is the transform of a list by an order, as the document says it.
func transform(o api.Order, x []complex128) []complex128 {
	n := len(x)
	switch o.Kind {
	case api.OrderDirect:
		y := make([]complex128, n)
		for k := range y {
			y[k] = must(direct.At(x, 0, 1, n, k))
		}
		return y
	case api.OrderFly:
		return must(fly.Fly(x))
	case api.OrderTimes:
		return ofProduct(o.Kids[0], o.Kids[1], x)
	}
	return byBluestein(n, o.Kids[0], x)
}

func ofProduct(first, second api.Order, x []complex128) []complex128 {
	n, a, b := len(x), lengthOf(first), lengthOf(second)
	var parts [][]complex128
	for j := range a {
		var list []complex128
		for i := j; i < n; i += a {
			list = append(list, x[i])
		}
		list = transform(second, list)
		for k := range list {
			list[k] = must(roots.Twist(list[k], n, j*k))
		}
		parts = append(parts, list)
	}
	y := make([]complex128, n)
	for k := range b {
		var list []complex128
		for j := range a {
			list = append(list, parts[j][k])
		}
		for q, v := range transform(first, list) {
			y[k+b*q] = v
		}
	}
	return y
}

func byBluestein(n int, inner api.Order, x []complex128) []complex128 {
	m := lengthOf(inner)
	list := make([]complex128, m)
	for j := range x {
		list[j] = cplx.Mul(x[j], must(chirp.At(n, j)))
	}
	list = transform(inner, list)
	other := transform(inner, must(chirp.Other(n, m)))
	for i := range list {
		list[i] = cplx.Conj(cplx.Mul(list[i], other[i]))
	}
	list = transform(inner, list)
	y := make([]complex128, n)
	for k := range y {
		y[k] = cplx.Mul(cplx.Over(cplx.Conj(list[k]), m), must(chirp.At(n, k)))
	}
	return y
}

// anyList is a list of any floats; odd ones (infinities, NaN, noughts, the ends of the floats) stand in some lists alone, since a NaN hides much.
func anyList(r *rand.Rand, n int, odd bool) []complex128 {
	float := func() float64 {
		if odd && r.Intn(n+2) == 0 {
			return []float64{math.NaN(), math.Inf(1), math.Inf(-1), math.MaxFloat64, 5e-324, 0}[r.Intn(6)]
		}
		if r.Intn(8) == 0 {
			return math.Copysign(0, -float64(r.Intn(2)))
		}
		return math.Ldexp(r.Float64()-0.5, r.Intn(40)-20)
	}
	x := make([]complex128, n)
	for i := range x {
		x[i] = complex(float(), float())
	}
	return x
}

// P17.3.
func TestProgramsMakeTheTransform(t *testing.T) {
	r := rand.New(rand.NewSource(19))
	strange := complex(math.NaN(), math.Inf(-1))
	for _, o := range someOrders(t) {
		deep, wide := compiled(t, o, api.Deep), compiled(t, o, api.Wide)
		for _, odd := range []bool{false, true} {
			x := anyList(r, deep.Length, odd)
			want := transform(o, slices.Clone(x))
			for _, first := range []complex128{0, strange} {
				for way, p := range []api.Program{deep, wide} {
					if got := run(p, x, first); !cplx.SameList(got, want) {
						t.Fatalf("way %d of %v: of %v it makes %v, want %v", way, o, x, got, want)
					}
				}
			}
		}
	}
}

// The example of the whole: what the plan of f4 transforms, and what it is exact at.
func TestExactTransforms(t *testing.T) {
	x, want := []complex128{1, 2, 3, 4}, []complex128{10, complex(-2, 2), -2, complex(-2, -2)}
	for _, s := range []string{"f4", "d4", "(f2 x f2)", "(d2 x f2)", "(f2 x d2)", "(d2 x d2)"} {
		for _, way := range ways {
			if got := run(compiled(t, parsed(t, s), way), x, 0); !slices.Equal(got, want) {
				t.Errorf("way %d of %s makes %v of %v", way, s, got, x)
			}
		}
	}
}

// bare is a program's steps, Dst and Src aside, in an order that hangs on nothing else.
func bare(p api.Program) []api.Step {
	var all []api.Step
	for _, s := range p.Steps {
		s.Dst, s.Src = 0, 0
		all = append(all, s)
	}
	slices.SortFunc(all, func(a, b api.Step) int {
		return slices.Compare([]int{a.Op, a.Jump, a.Count, a.N, a.K}, []int{b.Op, b.Jump, b.Count, b.N, b.K})
	})
	return all
}

// holdWays is P17.4.
func holdWays(t *testing.T, o api.Order) {
	t.Helper()
	deep, wide := compiled(t, o, api.Deep), compiled(t, o, api.Wide)
	if !slices.Equal(bare(deep), bare(wide)) {
		t.Fatalf("%v: the two ways don't make the same steps", o)
	}
	if deep.Cells > wide.Cells {
		t.Fatalf("%v: deep %d cells, wide %d", o, deep.Cells, wide.Cells)
	}
}

func TestWaysMakeTheSameSteps(t *testing.T) {
	for _, o := range someOrders(t) {
		holdWays(t, o)
	}
	for n := 1; n <= api.MaxLen; n += 1 + n/5 {
		o, err := planner.Choose(n, planner.Usual())
		if err != nil {
			t.Fatal(n, err)
		}
		holdWays(t, o)
	}
}
