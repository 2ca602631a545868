package plan

import (
	"encoding/binary"
	"math"
	"math/rand"
	"slices"
	"strconv"
	"testing"

	"timbre/api"
	"timbre/compile"
	"timbre/machine"
	"timbre/order"
	"timbre/roots"
	"timbre/steps"
)

// The document's section 'The transform' and the chapters 10, 11 and 13 of which it speaks, told float by float: without programs and machines, and without the layers that do sums, butterflies and chirps.

var (
	minusZero = math.Copysign(0, -1)
	inf       = math.Inf(1)
	nan       = math.NaN()
)

var ways = []int{api.Deep, api.Wide}

// oracle reckons float by float, and watches what it reckons: whether all of it is calm (P6). Its operations are calls that aren't inlined, so that no two of them can be fused.
type oracle struct{ wild bool }

func (o *oracle) watched(f float64) float64 {
	if !calm(f) {
		o.wild = true
	}
	return f
}

func calm(f float64) bool {
	return f == 0 || math.Abs(f) >= 0x1p-900 && math.Abs(f) <= 0x1p900
}

//go:noinline
func (o *oracle) add(x, y float64) float64 { return o.watched(x + y) }

//go:noinline
func (o *oracle) sub(x, y float64) float64 { return o.watched(x - y) }

//go:noinline
func (o *oracle) mul(x, y float64) float64 {
	p := x * y
	if p == 0 && x != 0 && y != 0 {
		o.wild = true
	}
	return o.watched(p)
}

//go:noinline
func (o *oracle) quo(x, y float64) float64 { return o.watched(x / y) }

func (o *oracle) plus(x, y complex128) complex128 {
	return complex(o.add(real(x), real(y)), o.add(imag(x), imag(y)))
}

func (o *oracle) less(x, y complex128) complex128 {
	return complex(o.sub(real(x), real(y)), o.sub(imag(x), imag(y)))
}

func (o *oracle) scaled(x complex128, f float64) complex128 {
	return complex(o.mul(real(x), f), o.mul(imag(x), f))
}

func (o *oracle) product(x, y complex128) complex128 {
	a, b, c, d := real(x), imag(x), real(y), imag(y)
	return complex(o.sub(o.mul(a, c), o.mul(b, d)), o.add(o.mul(a, d), o.mul(b, c)))
}

func (o *oracle) over(x complex128, n int) complex128 {
	return complex(o.quo(real(x), float64(n)), o.quo(imag(x), float64(n)))
}

// turned is f with its sign turned, by its bits.
func turned(f float64) float64 { return math.Float64frombits(math.Float64bits(f) ^ 1<<63) }

func conj(x complex128) complex128   { return complex(real(x), turned(imag(x))) }
func minus(x complex128) complex128  { return complex(turned(real(x)), turned(imag(x))) }
func timesI(x complex128) complex128 { return complex(turned(imag(x)), real(x)) }
func minusI(x complex128) complex128 { return complex(imag(x), turned(real(x))) }

// keptRoots are layer 7's, each list asked for once.
var keptRoots = map[int][]complex128{}

func root(n, k int) complex128 {
	if keptRoots[n] == nil {
		keptRoots[n] = make([]complex128, n)
		for k := range keptRoots[n] {
			keptRoots[n][k], _ = roots.Root(n, k)
		}
	}
	return keptRoots[n][k%n]
}

func (o *oracle) twist(a complex128, n, k int) complex128 {
	if k%n == 0 {
		return a
	}
	return o.product(a, root(n, k))
}

// forward is the transform of x by an order.
func (o *oracle) forward(tree api.Order, x []complex128) []complex128 {
	switch tree.Kind {
	case api.OrderDirect:
		return o.sums(x)
	case api.OrderFly:
		return o.butterfly(x)
	case api.OrderTimes:
		return o.times(tree.Kids[0], tree.Kids[1], x)
	}
	return o.blue(tree.Kids[0], x)
}

func (o *oracle) sums(x []complex128) []complex128 {
	y := make([]complex128, len(x))
	for k := range y {
		y[k] = x[0]
		for j := 1; j < len(x); j++ {
			y[k] = o.plus(y[k], o.twist(x[j], len(x), j*k))
		}
	}
	return y
}

func (o *oracle) butterfly(x []complex128) []complex128 {
	switch len(x) {
	case 2:
		return []complex128{o.plus(x[0], x[1]), o.less(x[0], x[1])}
	case 3:
		t, u := o.plus(x[1], x[2]), o.scaled(o.less(x[1], x[2]), math.Float64frombits(0x3febb67ae8584caa))
		m := o.less(x[0], o.scaled(t, 0.5))
		return []complex128{o.plus(x[0], t), o.plus(m, minusI(u)), o.plus(m, timesI(u))}
	case 4:
		p, q, s, u := o.plus(x[0], x[2]), o.less(x[0], x[2]), o.plus(x[1], x[3]), o.less(x[1], x[3])
		return []complex128{o.plus(p, s), o.plus(q, minusI(u)), o.less(p, s), o.plus(q, timesI(u))}
	}
	c1, c2 := math.Float64frombits(0x3fd3c6ef372fe950), math.Float64frombits(0xbfe9e3779b97f4a8)
	s1, s2 := math.Float64frombits(0x3fee6f0e134454ff), math.Float64frombits(0x3fe2cf2304755a5e)
	t, u, v, w := o.plus(x[1], x[4]), o.less(x[1], x[4]), o.plus(x[2], x[3]), o.less(x[2], x[3])
	m := o.plus(x[0], o.plus(o.scaled(t, c1), o.scaled(v, c2)))
	n := o.plus(x[0], o.plus(o.scaled(t, c2), o.scaled(v, c1)))
	g := o.plus(o.scaled(u, s1), o.scaled(w, s2))
	h := o.less(o.scaled(u, s2), o.scaled(w, s1))
	return []complex128{o.plus(x[0], o.plus(t, v)), o.plus(m, minusI(g)), o.plus(n, minusI(h)), o.plus(n, timesI(h)), o.plus(m, timesI(g))}
}

func (o *oracle) times(first, second api.Order, x []complex128) []complex128 {
	n, a := len(x), lengthOf(first)
	b := n / a
	lists := make([][]complex128, b) // number k has the elements k of all Y
	for j := range a {
		var part []complex128
		for i := j; i < n; i += a {
			part = append(part, x[i])
		}
		for k, v := range o.forward(second, part) {
			lists[k] = append(lists[k], o.twist(v, n, j*k))
		}
	}
	y := make([]complex128, n)
	for k, list := range lists {
		for q, v := range o.forward(first, list) {
			y[k+b*q] = v
		}
	}
	return y
}

func (o *oracle) blue(inner api.Order, x []complex128) []complex128 {
	n, m := len(x), lengthOf(inner)
	own, other := make([]complex128, m), make([]complex128, m)
	for j := range n {
		chirp := root(2*n, j*j)
		own[j] = o.product(x[j], chirp)
		other[j], other[(m-j)%m] = conj(chirp), conj(chirp)
	}
	y, z := o.forward(inner, own), o.forward(inner, other)
	for i := range y {
		y[i] = conj(o.product(y[i], z[i]))
	}
	y = o.forward(inner, y)[:n]
	for k := range y {
		y[k] = o.product(o.over(conj(y[k]), m), root(2*n, k*k))
	}
	return y
}

func (o *oracle) inverse(tree api.Order, x []complex128) []complex128 {
	y := o.forward(tree, each(x, conj))
	return each(y, func(v complex128) complex128 { return o.over(conj(v), len(y)) })
}

func each(x []complex128, do func(complex128) complex128) []complex128 {
	out := make([]complex128, 0, len(x))
	for _, v := range x {
		out = append(out, do(v))
	}
	return out
}

func lengthOf(o api.Order) int {
	if o.Kind == api.OrderTimes {
		return lengthOf(o.Kids[0]) * lengthOf(o.Kids[1])
	}
	return o.N
}

// textOf is the text of the plan of an order in a way.
func textOf(o api.Order, way int) string {
	if way == api.Wide {
		return "wide " + orderText(o)
	}
	return "deep " + orderText(o)
}

func orderText(o api.Order) string {
	switch o.Kind {
	case api.OrderDirect:
		return "d" + strconv.Itoa(o.N)
	case api.OrderFly:
		return "f" + strconv.Itoa(o.N)
	case api.OrderTimes:
		return "(" + orderText(o.Kids[0]) + " x " + orderText(o.Kids[1]) + ")"
	}
	return "b" + strconv.Itoa(o.N) + "(" + orderText(o.Kids[0]) + ")"
}

// textBytes is a Text of layer 4.
func textBytes(s string) []byte {
	return append(binary.AppendUvarint(nil, uint64(len(s))), s...)
}

// bytesOf are the bytes of the plan of an order in a way.
func bytesOf(o api.Order, way int) []byte {
	return append(textBytes(textOf(o, way)), must(steps.Encode(must(compile.Program(o, way))))...)
}

// stateOf are the bytes of a run of that plan, so many acts done.
func stateOf(o api.Order, way int, x []complex128, inverse bool, acts int) []byte {
	m := must(machine.New(must(compile.Program(o, way))))
	first := byte(0)
	if inverse {
		x, first = each(x, conj), 1
	}
	if err := m.Load(x); err != nil {
		panic(err)
	}
	if acts > 0 {
		must(m.Run(acts))
	}
	return slices.Concat([]byte{first}, textBytes(textOf(o, way)), m.State())
}

// must is what a call of a lower layer answers beside no error.
func must[T any](x T, err error) T {
	if err != nil {
		panic(err)
	}
	return x
}

func alikeFloats(x, y float64) bool {
	return math.Float64bits(x) == math.Float64bits(y) || x != x && y != y
}

func alike(a, b []complex128) bool {
	return slices.EqualFunc(a, b, func(a, b complex128) bool {
		return alikeFloats(real(a), real(b)) && alikeFloats(imag(a), imag(b))
	})
}

// parsed is the order of a text.
func parsed(s string) api.Order {
	o, _, err := order.Parse(s)
	if err != nil {
		panic(s)
	}
	return o
}

// planOf is a plan, held against what it is told to be.
func planOf(t *testing.T, o api.Order, way int) *Plan {
	t.Helper()
	p, err := Of(o, way)
	if err != nil {
		t.Fatalf("Of way %d of %s: %v", way, orderText(o), err)
	}
	holdPlan(t, p, o, way)
	return p
}

// holdPlan asks a plan everything but transforms.
func holdPlan(t *testing.T, p *Plan, o api.Order, way int) {
	t.Helper()
	if p == nil {
		t.Fatalf("no plan of way %d of %s", way, orderText(o))
	}
	if p.Length() != lengthOf(o) || p.Way() != way || !sameOrders(p.Order(), o) {
		t.Fatalf("length %d, way %d, order %v of the plan of way %d of %s", p.Length(), p.Way(), p.Order(), way, orderText(o))
	}
	if got := p.Text(); got != textOf(o, way) {
		t.Fatalf("Text is %q, want %q", got, textOf(o, way))
	}
	if !steps.Same(p.Program(), must(compile.Program(o, way))) {
		t.Fatalf("the program of %s is another one", p.Text())
	}
	if !slices.Equal(p.Encode(), bytesOf(o, way)) {
		t.Fatalf("the bytes of %s are others", p.Text())
	}
}

func sameOrders(a, b api.Order) bool {
	return a.Kind == b.Kind && a.N == b.N && slices.EqualFunc(a.Kids, b.Kids, sameOrders)
}

// holdTransforms holds both transforms of a list against what is told.
func holdTransforms(t *testing.T, p *Plan, o api.Order, x []complex128) {
	t.Helper()
	if y, err := p.Forward(x); err != nil || !alike(y, new(oracle).forward(o, x)) {
		t.Fatalf("%s: Forward of %v is %v, %v, want %v", p.Text(), x, y, err, new(oracle).forward(o, x))
	}
	if y, err := p.Inverse(x); err != nil || !alike(y, new(oracle).inverse(o, x)) {
		t.Fatalf("%s: Inverse of %v is %v, %v, want %v", p.Text(), x, y, err, new(oracle).inverse(o, x))
	}
}

// smallOrders are all orders of few leaves, up to so many levels of products and Bluestein's way.
func smallOrders(leaves []api.Order, levels int) []api.Order {
	all := slices.Clone(leaves)
	for range levels {
		var more []api.Order
		for _, a := range all {
			for _, b := range all {
				more = append(more, order.Times(a, b))
			}
			for n := 2; 2*n-1 <= lengthOf(a) && n <= 4; n++ {
				more = append(more, order.Blue(n, a))
			}
		}
		for _, o := range more {
			if lengthOf(o) <= 40 && !slices.ContainsFunc(all, func(p api.Order) bool { return sameOrders(o, p) }) {
				all = append(all, o)
			}
		}
	}
	return all
}

// anyOrder is any good order of at least 2, at most that many levels deep, that has a program in both ways.
func anyOrder(r *rand.Rand, levels int) api.Order {
	for {
		o := anyTree(r, levels)
		_, deep := compile.Program(o, api.Deep)
		_, wide := compile.Program(o, api.Wide)
		if deep == nil && wide == nil {
			return o
		}
	}
}

func anyTree(r *rand.Rand, levels int) api.Order {
	switch kind := r.Intn(8); {
	case levels > 1 && kind < 4:
		a, b := anyTree(r, levels-1), anyTree(r, levels-1)
		if lengthOf(a)*lengthOf(b) <= 600 {
			return order.Times(a, b)
		}
		return b
	case levels > 1 && kind < 6:
		m := anyTree(r, levels-1)
		if most := (lengthOf(m) + 1) / 2; most >= 2 {
			return order.Blue(2+r.Intn(most-1), m)
		}
		return m
	case kind == 6:
		return order.Direct(2 + r.Intn(63)>>r.Intn(6))
	}
	return order.Fly(2 + r.Intn(4))
}

// anyFloat is any float; odd ones (infinities, NaN of any bits, the ends of the floats) stand in some lists alone, since a NaN hides much.
func anyFloat(r *rand.Rand, odd bool) float64 {
	if odd && r.Intn(6) == 0 {
		return []float64{nan, math.Float64frombits(0xfff8000000000007), inf, -inf, math.MaxFloat64, 5e-324}[r.Intn(6)]
	}
	if r.Intn(8) == 0 {
		return []float64{0, minusZero}[r.Intn(2)]
	}
	return math.Ldexp(r.Float64()-0.5, r.Intn(40)-20)
}

func anyList(r *rand.Rand, n int, odd bool) []complex128 {
	x := make([]complex128, n)
	for i := range x {
		x[i] = complex(anyFloat(r, odd), anyFloat(r, odd))
	}
	return x
}
