package fly

import (
	"hash/fnv"
	"math"
	"math/rand"
	"slices"
	"testing"

	"timbre/api"
	"timbre/cplx"
	"timbre/direct"
)

type list = []complex128

var (
	minusZero = math.Copysign(0, -1)
	inf       = math.Inf(1)
	nan       = math.NaN()
	otherNaN  = math.Float64frombits(0xfff0000000000001) // with a sign, and not quiet
)

// oracle reckons by the chapter's words, float by float; it counts what it reckons, and watches whether all of it is calm (P11.3). Its operations are calls that aren't inlined, so that no two of them can be fused.
type oracle struct {
	sums, products int
	wild           bool
}

// watched is f, which was reckoned.
func (o *oracle) watched(f float64) float64 {
	if !calm(f) {
		o.wild = true
	}
	return f
}

func calm(f float64) bool {
	return f == 0 || math.Abs(f) >= 0x1p-900 && math.Abs(f) <= 0x1p900
}

//go:noinline
func (o *oracle) add(x, y float64) float64 {
	o.sums++
	return o.watched(x + y)
}

//go:noinline
func (o *oracle) sub(x, y float64) float64 {
	o.sums++
	return o.watched(x - y)
}

//go:noinline
func (o *oracle) mul(x, y float64) float64 {
	o.products++
	p := x * y
	if p == 0 && x != 0 && y != 0 {
		o.wild = true
	}
	return o.watched(p)
}

// pair is a complex number, its parts apart.
type pair struct{ re, im float64 }

func (o *oracle) plus(a, b pair) pair { return pair{o.add(a.re, b.re), o.add(a.im, b.im)} }

func (o *oracle) less(a, b pair) pair { return pair{o.sub(a.re, b.re), o.sub(a.im, b.im)} }

func (o *oracle) times(a pair, f float64) pair { return pair{o.mul(a.re, f), o.mul(a.im, f)} }

// turnedSign is f with its sign turned, by its bits.
func turnedSign(f float64) float64 {
	return math.Float64frombits(math.Float64bits(f) ^ 1<<63)
}

func timesI(a pair) pair { return pair{turnedSign(a.im), a.re} }

func minusI(a pair) pair { return pair{a.im, turnedSign(a.re)} }

func (o *oracle) two(a, b pair) []pair {
	return []pair{o.plus(a, b), o.less(a, b)}
}

func (o *oracle) three(a, b, c pair) []pair {
	s := math.Float64frombits(0x3febb67ae8584caa)
	t := o.plus(b, c)
	u := o.times(o.less(b, c), s)
	m := o.less(a, o.times(t, 0.5))
	return []pair{o.plus(a, t), o.plus(m, minusI(u)), o.plus(m, timesI(u))}
}

func (o *oracle) four(a, b, c, d pair) []pair {
	p := o.plus(a, c)
	q := o.less(a, c)
	s := o.plus(b, d)
	u := o.less(b, d)
	return []pair{o.plus(p, s), o.plus(q, minusI(u)), o.less(p, s), o.plus(q, timesI(u))}
}

func (o *oracle) five(a, b, c, d, e pair) []pair {
	c1, c2 := math.Float64frombits(0x3fd3c6ef372fe950), math.Float64frombits(0xbfe9e3779b97f4a8)
	s1, s2 := math.Float64frombits(0x3fee6f0e134454ff), math.Float64frombits(0x3fe2cf2304755a5e)
	t := o.plus(b, e)
	u := o.less(b, e)
	v := o.plus(c, d)
	w := o.less(c, d)
	y0 := o.plus(a, o.plus(t, v))
	m := o.plus(a, o.plus(o.times(t, c1), o.times(v, c2)))
	n := o.plus(a, o.plus(o.times(t, c2), o.times(v, c1)))
	g := o.plus(o.times(u, s1), o.times(w, s2))
	h := o.less(o.times(u, s2), o.times(w, s1))
	return []pair{y0, o.plus(m, minusI(g)), o.plus(n, minusI(h)), o.plus(n, timesI(h)), o.plus(m, timesI(g))}
}

// fly is the butterfly of a list of 2 to 5 elements.
func (o *oracle) fly(x list) list {
	var a, y []pair
	for _, v := range x {
		a = append(a, pair{real(v), imag(v)})
	}
	switch len(a) {
	case 2:
		y = o.two(a[0], a[1])
	case 3:
		y = o.three(a[0], a[1], a[2])
	case 4:
		y = o.four(a[0], a[1], a[2], a[3])
	case 5:
		y = o.five(a[0], a[1], a[2], a[3], a[4])
	}
	var out list
	for _, v := range y {
		out = append(out, complex(v.re, v.im))
	}
	return out
}

func alike(x, y float64) bool {
	return math.Float64bits(x) == math.Float64bits(y) || x != x && y != y
}

func alikeLists(a, b list) bool {
	return slices.EqualFunc(a, b, func(v, w complex128) bool {
		return alike(real(v), real(w)) && alike(imag(v), imag(w))
	})
}

// byArrays is the butterfly of a list by the function that takes an array.
func byArrays(x list) list {
	switch len(x) {
	case 2:
		y := Two([2]complex128(x))
		return y[:]
	case 3:
		y := Three([3]complex128(x))
		return y[:]
	case 4:
		y := Four([4]complex128(x))
		return y[:]
	case 5:
		y := Five([5]complex128(x))
		return y[:]
	}
	panic("no butterfly")
}

func mustFly(t *testing.T, x list) list {
	t.Helper()
	y, err := Fly(x)
	if err != nil {
		t.Fatalf("Fly of %v: %v", x, err)
	}
	return y
}

// edges are floats of every class.
func edges() []float64 {
	return []float64{0, minusZero, 0x1p-1074, -0x1p-1022, 0x1p-60, 0.1, 1, -1, 1 + 0x1p-52, -3, 1e16, 0x1p1023, math.MaxFloat64, -math.MaxFloat64, inf, -inf, nan, otherNaN}
}

// kinds are ways to choose a float by chance.
func kinds() []func(r *rand.Rand) float64 {
	all := edges()
	around := func(r *rand.Rand, power int) float64 { return math.Ldexp(r.Float64()-0.5, power) }
	return []func(r *rand.Rand) float64{
		func(r *rand.Rand) float64 { return around(r, 0) },
		func(r *rand.Rand) float64 { return around(r, r.Intn(120)-60) },
		func(r *rand.Rand) float64 { return around(r, r.Intn(2100)-1075) },
		func(r *rand.Rand) float64 { return around(r, -1020-r.Intn(50)) },
		func(r *rand.Rand) float64 { return around(r, 1024-r.Intn(4)) },
		func(r *rand.Rand) float64 { return float64(r.Intn(9) - 4) },
		func(r *rand.Rand) float64 { return all[r.Intn(2)] },
		func(r *rand.Rand) float64 { return all[r.Intn(len(all)-4)] }, // finite
		func(r *rand.Rand) float64 { return all[r.Intn(len(all))] },
		func(r *rand.Rand) float64 {
			if r.Intn(10) > 0 { // an infinity or a NaN in few places
				return around(r, 0)
			}
			return all[len(all)-1-r.Intn(4)]
		},
		func(r *rand.Rand) float64 { return math.Float64frombits(r.Uint64()) },
	}
}

func byChance(r *rand.Rand, n int, kind func(r *rand.Rand) float64) list {
	x := make(list, n)
	for i := range x {
		x[i] = complex(kind(r), kind(r))
	}
	return x
}

// eachOf tells all lists of r elements whose parts are among the floats given.
func eachOf(r int, floats []float64, do func(x list)) {
	at := make([]int, 2*r)
	x := make(list, r)
	for {
		for j := range x {
			x[j] = complex(floats[at[2*j]], floats[at[2*j+1]])
		}
		do(x)
		i := 0
		for i < len(at) && at[i] == len(floats)-1 {
			at[i] = 0
			i++
		}
		if i == len(at) {
			return
		}
		at[i]++
	}
}

// eachList tells all lists of few floats (the fewer, the longer the list), and lists of each kind, the seed always the same.
func eachList(do func(x list)) {
	eachOf(2, edges(), do)
	eachOf(3, []float64{0, minusZero, 1, -0.1, inf, nan}, do)
	eachOf(4, []float64{minusZero, 0, 1, inf}, do)
	eachOf(5, []float64{minusZero, 1, -inf}, do)
	r := rand.New(rand.NewSource(1))
	for _, kind := range kinds() {
		for range 2000 {
			for n := 2; n <= 5; n++ {
				do(byChance(r, n, kind))
			}
		}
	}
}

// P11.1.
func TestButterflies(t *testing.T) {
	eachList(func(x list) {
		want := new(oracle).fly(x)
		if got := byArrays(x); !alikeLists(got, want) {
			t.Fatalf("the butterfly of %v is %v, want %v", x, got, want)
		}
		if got := mustFly(t, x); !alikeLists(got, want) {
			t.Fatalf("Fly of %v is %v, want %v", x, got, want)
		}
	})
}

// The chapter's examples and DOC.md's first, and answers to be seen at once: each answer's place, and the floats of 3 and 5.
func TestExamples(t *testing.T) {
	const (
		s      = 0.8660254037844386
		c1, c2 = 0.30901699437494745, -0.8090169943749475
		s1, s2 = 0.9510565162951535, 0.5877852522924731
	)
	for _, c := range []struct{ x, y list }{
		{list{1 + 2i, 3 + 4i}, list{4 + 6i, -2 - 2i}},
		{list{1, 2, 3, 4}, list{10, -2 + 2i, -2, -2 - 2i}},
		{list{1, 1, 1}, list{3, 0, 0}},
		{list{1, 0, 0}, list{1, 1, 1}},
		{list{0, 1, 0}, list{1, complex(-0.5, -s), complex(-0.5, s)}},
		{list{0, 0, 1i}, list{1i, complex(-s, -0.5), complex(s, -0.5)}},
		{list{0, 1i, 0, 0}, list{1i, 1, -1i, -1}},
		{list{0, 0, 0, 1}, list{1, 1i, -1, -1i}},
		{list{1, 0, 0, 0, 0}, list{1, 1, 1, 1, 1}},
		{list{0, 1, 0, 0, 0}, list{1, complex(c1, -s1), complex(c2, -s2), complex(c2, s2), complex(c1, s1)}},
		{list{0, 0, 1, 0, 0}, list{1, complex(c2, -s2), complex(c1, s1), complex(c1, -s1), complex(c2, s2)}},
		{list{0, 0, 0, 1i, 0}, list{1i, complex(-s2, c2), complex(s1, c1), complex(-s1, c1), complex(s2, c2)}},
		{list{0, 0, 0, 0, 1i}, list{1i, complex(-s1, c1), complex(-s2, c2), complex(s2, c2), complex(s1, c1)}},
	} {
		if y := byArrays(c.x); !slices.Equal(y, c.y) {
			t.Errorf("the butterfly of %v is %v, want %v", c.x, y, c.y)
		}
		if y := mustFly(t, c.x); !slices.Equal(y, c.y) {
			t.Errorf("Fly of %v is %v, want %v", c.x, y, c.y)
		}
	}
}

// Odd floats, by hand: turns are no products, so an infinity stays alone, and noughts keep their signs.
func TestOddFloats(t *testing.T) {
	for _, c := range []struct{ x, y list }{
		{list{complex(inf, minusZero), complex(inf, 0)}, list{complex(inf, 0), complex(nan, minusZero)}},
		{list{complex(minusZero, minusZero), complex(minusZero, 0)}, list{complex(minusZero, 0), complex(0, minusZero)}},
		{list{math.MaxFloat64, math.MaxFloat64}, list{complex(inf, 0), 0}},
		{list{0, complex(inf, 1), 0, 0}, list{complex(inf, 1), complex(1, -inf), complex(-inf, -1), complex(-1, inf)}},
		{list{complex(nan, 5), 0, 0, 0}, list{complex(nan, 5), complex(nan, 5), complex(nan, 5), complex(nan, 5)}},
		{list{0, complex(1, nan), 0, 0}, list{complex(1, nan), complex(nan, -1), complex(-1, nan), complex(nan, 1)}},
		{list{0, complex(inf, 0), 0}, list{complex(inf, 0), complex(-inf, -inf), complex(-inf, inf)}},
		{list{1, complex(inf, 0), complex(-inf, 0)}, list{complex(nan, 0), complex(nan, -inf), complex(nan, inf)}},
		{list{0, complex(inf, 0), 0, 0, 0}, list{complex(inf, 0), complex(inf, -inf), complex(-inf, -inf), complex(-inf, inf), complex(inf, inf)}},
		{list{complex(minusZero, minusZero), 0, 0}, list{0, complex(0, minusZero), complex(minusZero, 0)}},
	} {
		if y := byArrays(c.x); !alikeLists(y, c.y) {
			t.Errorf("the butterfly of %v is %v, want %v", c.x, y, c.y)
		}
	}
}

func TestFlyRefuses(t *testing.T) {
	room := make(list, 1<<20)
	for _, x := range []list{nil, {}, room[:0], {1}, room[:1], make(list, 6), room[:7], room[:8], room[:1024], room[:1<<16+2], room} {
		if y, err := Fly(x); err != api.ErrLength || len(y) != 0 {
			t.Errorf("Fly of %d elements: %v, %v", len(x), y, err)
		}
	}
	for n := 2; n <= 5; n++ {
		if y, err := Fly(room[:n]); err != nil || len(y) != n {
			t.Errorf("Fly of %d elements: %v, %v", n, y, err)
		}
	}
}

func TestHasAndWork(t *testing.T) {
	type work struct{ sums, products int }
	told := map[int]work{2: {4, 0}, 3: {12, 4}, 4: {16, 0}, 5: {32, 16}}
	rs := []int{math.MinInt, math.MinInt + 3, -1 << 32, 1<<32 + 2, 1<<62 + 4, 1<<16 + 3, 1<<8 + 5, math.MaxInt}
	for r := -20; r <= 100; r++ {
		rs = append(rs, r)
	}
	for _, r := range rs {
		want, has := told[r]
		if Has(r) != has {
			t.Errorf("Has(%d) is %v", r, Has(r))
		}
		if sums, products := Work(r); (work{sums, products}) != want {
			t.Errorf("Work(%d) is %d, %d", r, sums, products)
		}
		if has {
			o := new(oracle)
			o.fly(make(list, r))
			if (work{o.sums, o.products}) != want {
				t.Errorf("the butterfly of %d has %d sums and %d products", r, o.sums, o.products)
			}
		}
	}
}

// What is handed in isn't changed, its spare room included; answers are new memory.
func TestMemory(t *testing.T) {
	r := rand.New(rand.NewSource(2))
	for n := 2; n <= 5; n++ {
		whole := byChance(r, n+4, kinds()[0])
		before := slices.Clone(whole)
		first := mustFly(t, whole[:n])
		want := slices.Clone(first)
		again := mustFly(t, whole[:n])
		clear(first[:cap(first)])
		if !alikeLists(whole, before) || !alikeLists(again, want) || !alikeLists(mustFly(t, whole[:n]), want) {
			t.Errorf("Fly of %d changes what it is given, or its answer shares memory", n)
		}
		clear(whole)
		if !alikeLists(again, want) {
			t.Errorf("Fly of %d: the answer shares memory with what was given", n)
		}
	}
}

// given is a list that another program can make too.
func given(n int) list {
	state := uint64(n)
	part := func() float64 {
		state = state*6364136223846793005 + 1442695040888963407
		return math.Ldexp(float64(state>>11)-0x1p52, -45-int(state>>5%8))
	}
	out := make(list, n)
	for i := range out {
		re := part()
		out[i] = complex(re, part())
	}
	return out
}

// sumOf is FNV-1a of the bits of a list, the lowest bytes first.
func sumOf(x list) uint64 {
	sum := fnv.New64a()
	var b [8]byte
	for _, w := range x {
		for _, f := range []float64{real(w), imag(w)} {
			for i := range b {
				b[i] = byte(math.Float64bits(f) >> (8 * i))
			}
			sum.Write(b[:])
		}
	}
	return sum.Sum64()
}

// The bits of the answers to a thousand lists of each length, reckoned by another program.
func TestKnownLists(t *testing.T) {
	for _, c := range []struct {
		r            int
		given, flown uint64
	}{
		{2, 0xa38db77d87d1de3a, 0x415cc939a498ed66},
		{3, 0xcac4f0c5339d9c57, 0x5f7d47105a9c2eaf},
		{4, 0x002c0cb1bc369d93, 0x512809dc27bf9f7e},
		{5, 0xb919daed2d91801b, 0x613436ffc9e718d0},
	} {
		x := given(1000 * c.r)
		var y list
		for part := range slices.Chunk(x, c.r) {
			y = append(y, mustFly(t, part)...)
		}
		if sumOf(x) != c.given || sumOf(y) != c.flown {
			t.Errorf("%d: the sums are %x and %x, want %x and %x", c.r, sumOf(x), sumOf(y), c.given, c.flown)
		}
	}
}

// The butterflies lie near the transform by its sum.
func TestNear(t *testing.T) {
	r := rand.New(rand.NewSource(3))
	for range 1000 {
		for n := 2; n <= 5; n++ {
			x := byChance(r, n, kinds()[0])
			want, err := direct.Forward(x)
			if err != nil {
				t.Fatal(err)
			}
			for k, v := range mustFly(t, x) {
				if cplx.Abs(v-want[k]) > 1e-14 {
					t.Fatalf("element %d of the butterfly of %v is %v, by the sum %v", k, x, v, want[k])
				}
			}
		}
	}
}
