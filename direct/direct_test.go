package direct

import (
	"hash/fnv"
	"math"
	"math/rand"
	"slices"
	"testing"

	"timbre/api"
	"timbre/cplx"
	"timbre/roots"
)

const (
	maxSide = 1024 // the chapter's number
	most    = math.MaxInt
	least   = math.MinInt
)

var (
	minusZero = math.Copysign(0, -1)
	inf       = math.Inf(1)
	nan       = math.NaN()
	otherNaN  = math.Float64frombits(0xfff0000000000001) // with a sign, and not quiet
)

// oracle reckons by the chapter's words, float by float, and watches what it reckons: whether all of it is calm (P10.4). Its operations are calls that aren't inlined, so that no two of them can be fused.
type oracle struct{ wild bool }

// watched is f, which was reckoned.
func (o *oracle) watched(f float64) float64 {
	if !calm(f) {
		o.wild = true
	}
	return f
}

func calm(f float64) bool {
	return f == 0 || math.Abs(f) >= 0x1p-900 && math.Abs(f) <= 0x1p900
}

//go:noinline
func (o *oracle) add(x, y float64) float64 { return o.watched(x + y) }

//go:noinline
func (o *oracle) sub(x, y float64) float64 { return o.watched(x - y) }

//go:noinline
func (o *oracle) mul(x, y float64) float64 {
	p := x * y
	if p == 0 && x != 0 && y != 0 {
		o.wild = true
	}
	return o.watched(p)
}

//go:noinline
func (o *oracle) quo(x, y float64) float64 { return o.watched(x / y) }

func (o *oracle) twist(a complex128, n, k int) complex128 {
	k = (k%n + n) % n
	if k == 0 {
		return a
	}
	w, err := roots.Root(n, k)
	if err != nil {
		panic(err)
	}
	re := o.sub(o.mul(real(a), real(w)), o.mul(imag(a), imag(w)))
	im := o.add(o.mul(real(a), imag(w)), o.mul(imag(a), real(w)))
	return complex(re, im)
}

// at is the sum k of all elements of x.
func (o *oracle) at(x []complex128, k int) complex128 {
	n := len(x)
	re, im := real(x[0]), imag(x[0])
	for j := 1; j < n; j++ {
		t := o.twist(x[j], n, j*(k%n))
		re, im = o.add(re, real(t)), o.add(im, imag(t))
	}
	return complex(re, im)
}

func (o *oracle) forward(x []complex128) []complex128 {
	var out []complex128
	for k := range x {
		out = append(out, o.at(x, k))
	}
	return out
}

// turnedSign is f with its sign turned, by its bits.
func turnedSign(f float64) float64 {
	return math.Float64frombits(math.Float64bits(f) ^ 1<<63)
}

func (o *oracle) inverse(y []complex128) []complex128 {
	var turned, out []complex128
	for _, v := range y {
		turned = append(turned, complex(real(v), turnedSign(imag(v))))
	}
	n := float64(len(y))
	for _, v := range o.forward(turned) {
		out = append(out, complex(o.quo(real(v), n), o.quo(turnedSign(imag(v)), n)))
	}
	return out
}

func (o *oracle) slide(y []complex128, gone, v complex128) []complex128 {
	var out []complex128
	for k, e := range y {
		re := o.add(o.sub(real(e), real(gone)), real(v))
		im := o.add(o.sub(imag(e), imag(gone)), imag(v))
		out = append(out, o.twist(complex(re, im), len(y), -k))
	}
	return out
}

func alike(x, y float64) bool {
	return math.Float64bits(x) == math.Float64bits(y) || x != x && y != y
}

func alikeParts(a, b complex128) bool {
	return alike(real(a), real(b)) && alike(imag(a), imag(b))
}

func alikeLists(a, b []complex128) bool { return slices.EqualFunc(a, b, alikeParts) }

// edges are floats of every class.
func edges() []float64 {
	return []float64{0, minusZero, 0x1p-1074, -0x1p-1022, 0x1p-60, 0.1, 1, -1, 1 + 0x1p-52, -3, 1e16, 0x1p1023, math.MaxFloat64, -math.MaxFloat64, inf, -inf, nan, otherNaN}
}

// kinds are ways to choose a float by chance.
func kinds() []func(r *rand.Rand) float64 {
	all := edges()
	around := func(r *rand.Rand, power int) float64 { return math.Ldexp(r.Float64()-0.5, power) }
	return []func(r *rand.Rand) float64{
		func(r *rand.Rand) float64 { return around(r, 0) },
		func(r *rand.Rand) float64 { return around(r, r.Intn(120)-60) },
		func(r *rand.Rand) float64 { return around(r, r.Intn(2100)-1075) },
		func(r *rand.Rand) float64 { return around(r, -1020-r.Intn(50)) },
		func(r *rand.Rand) float64 { return around(r, 1024-r.Intn(4)) },
		func(r *rand.Rand) float64 { return float64(r.Intn(9) - 4) },
		func(r *rand.Rand) float64 { return all[r.Intn(2)] },
		func(r *rand.Rand) float64 { return all[r.Intn(len(all)-4)] }, // finite
		func(r *rand.Rand) float64 { return all[r.Intn(len(all))] },
		func(r *rand.Rand) float64 {
			if r.Intn(20) > 0 { // an infinity or a NaN in few places
				return around(r, 0)
			}
			return all[len(all)-1-r.Intn(4)]
		},
		func(r *rand.Rand) float64 { return math.Float64frombits(r.Uint64()) },
	}
}

func byChance(r *rand.Rand, n int, kind func(r *rand.Rand) float64) []complex128 {
	list := make([]complex128, n)
	for i := range list {
		list[i] = complex(kind(r), kind(r))
	}
	return list
}

// eachList tells all lists of one edge and of two with an edge in each part, and lists of each kind and many lengths, the seed always the same.
func eachList(do func(list []complex128)) {
	for _, x := range edges() {
		for _, y := range edges() {
			do([]complex128{complex(x, y)})
			do([]complex128{complex(x, y), complex(y, x)})
			do([]complex128{complex(x, minusZero), complex(minusZero, y), complex(minusZero, minusZero)})
		}
	}
	r := rand.New(rand.NewSource(1))
	for _, kind := range kinds() {
		for n := 1; n <= 40; n++ {
			for range 2 {
				do(byChance(r, n, kind))
			}
		}
		do(byChance(r, 97, kind))
		do(byChance(r, 128, kind))
	}
}

func mustForward(t *testing.T, x []complex128) []complex128 {
	t.Helper()
	y, err := Forward(x)
	if err != nil {
		t.Fatalf("Forward of %d: %v", len(x), err)
	}
	return y
}

func mustInverse(t *testing.T, y []complex128) []complex128 {
	t.Helper()
	x, err := Inverse(y)
	if err != nil {
		t.Fatalf("Inverse of %d: %v", len(y), err)
	}
	return x
}

func mustSlide(t *testing.T, y []complex128, gone, v complex128) []complex128 {
	t.Helper()
	out, err := Slide(y, gone, v)
	if err != nil {
		t.Fatalf("Slide of %d: %v", len(y), err)
	}
	return out
}

// P10.1.
func TestForwardAndInverse(t *testing.T) {
	eachList(func(list []complex128) {
		if got, want := mustForward(t, list), new(oracle).forward(list); !alikeLists(got, want) {
			t.Fatalf("Forward of %v is %v, want %v", list, got, want)
		}
		if got, want := mustInverse(t, list), new(oracle).inverse(list); !alikeLists(got, want) {
			t.Fatalf("Inverse of %v is %v, want %v", list, got, want)
		}
	})
}

// P10.1.
func TestSlide(t *testing.T) {
	r := rand.New(rand.NewSource(2))
	all := kinds()
	eachList(func(list []complex128) {
		kind := all[r.Intn(len(all))]
		ends := append(byChance(r, 2, kind), list[0], list[len(list)-1])
		for i, gone := range ends {
			v := ends[len(ends)-1-i]
			if got, want := mustSlide(t, list, gone, v), new(oracle).slide(list, gone, v); !alikeLists(got, want) {
				t.Fatalf("Slide of %v, %v, %v is %v, want %v", list, gone, v, got, want)
			}
		}
	})
}

// spread is x from a place on, jump apart, among other numbers; those behind the last are behind.
func spread(x []complex128, at, jump, behind int) []complex128 {
	out := make([]complex128, at+(len(x)-1)*jump+1+behind)
	for i := range out {
		out[i] = complex(nan, float64(i))
	}
	for j, v := range x {
		out[at+j*jump] = v
	}
	return out
}

// turns are numbers of sums of n elements: some within n, others far from it.
func turns(r *rand.Rand, n int) []int {
	return []int{0, 1, n - 1, n, n + 1, -1, -n, 1 - n, r.Intn(n), r.Intn(n) - 5*n, int(r.Uint64()), most, least, most / n * n, least / n * n, least + 1}
}

// P10.1: k counts modulo n, whatever int it is.
func TestAt(t *testing.T) {
	r := rand.New(rand.NewSource(3))
	eachList(func(list []complex128) {
		n := len(list)
		at, jump, behind := r.Intn(4), 1+r.Intn(4), r.Intn(3)
		x := spread(list, at, jump, behind)
		for _, k := range turns(r, n) {
			got, err := At(x, at, jump, n, k)
			if want := new(oracle).at(list, k); err != nil || !alikeParts(got, want) {
				t.Fatalf("At of %v, %d, %d, %d, %d is %v, %v, want %v", x, at, jump, n, k, got, err, want)
			}
		}
	})
}

func TestLongLists(t *testing.T) {
	r := rand.New(rand.NewSource(4))
	all := kinds()
	for i, n := range []int{1000, maxSide - 1, maxSide, maxSide, maxSide} {
		x := byChance(r, n, []func(r *rand.Rand) float64{all[0], all[1], all[5], all[9], all[2]}[i])
		y := mustForward(t, x)
		for _, k := range []int{0, 1, 2, n / 4, n / 2, n - 1, r.Intn(n)} {
			want := new(oracle).at(x, k)
			got, err := At(spread(x, 5, 3, 0), 5, 3, n, k)
			if err != nil || !alikeParts(got, want) || !alikeParts(y[k], want) {
				t.Fatalf("the sum %d of %d is %v, %v and %v, want %v", k, n, y[k], got, err, want)
			}
		}
		if !alikeLists(mustSlide(t, y, x[0], 5), new(oracle).slide(y, x[0], 5)) {
			t.Fatalf("Slide of %d", n)
		}
	}
}

// The chapter's examples, and some by hand: by the root 0 nothing is multiplied, by every other one something is.
func TestExamples(t *testing.T) {
	type list = []complex128
	for _, c := range []struct{ x, y list }{
		{list{1, 2}, list{3, -1}},
		{list{1, 2, 3, 4}, list{10, -2 + 2i, -2, -2 - 2i}},
		{list{5}, list{5}},
	} {
		if y := mustForward(t, c.x); !slices.Equal(y, c.y) {
			t.Errorf("Forward of %v is %v", c.x, y)
		}
		if x := mustInverse(t, c.y); !slices.Equal(x, c.x) {
			t.Errorf("Inverse of %v is %v", c.y, x)
		}
	}
	for _, c := range []struct{ x, y list }{
		{list{complex(minusZero, minusZero)}, list{complex(minusZero, minusZero)}},
		{list{complex(inf, nan)}, list{complex(inf, nan)}},
		{list{complex(minusZero, minusZero), complex(minusZero, minusZero)}, list{complex(minusZero, minusZero), 0}},
		{list{1, complex(inf, 0)}, list{complex(inf, 0), complex(-inf, nan)}},
		{list{complex(inf, 0), 1}, list{complex(inf, 0), complex(inf, 0)}},
		{list{0, complex(0, inf), 0, 0}, list{complex(0, inf), complex(inf, nan), complex(nan, -inf), complex(-inf, nan)}},
		{list{math.MaxFloat64, math.MaxFloat64}, list{complex(inf, 0), 0}},
	} {
		if y := mustForward(t, c.x); !alikeLists(y, c.y) {
			t.Errorf("Forward of %v is %v, want %v", c.x, y, c.y)
		}
	}
	if x := mustInverse(t, list{complex(minusZero, 0)}); !alikeLists(x, list{complex(minusZero, 0)}) {
		t.Errorf("Inverse of one: %v", x)
	}
	if y, err := At(list{5, 7, 9}, 0, 2, 2, 1); y != -4 || err != nil {
		t.Errorf("At = %v, %v", y, err)
	}
	if y := mustSlide(t, list{3, -1}, 1, 5); !slices.Equal(y, list{7, -3}) {
		t.Errorf("Slide = %v", y)
	}
	if y := mustSlide(t, list{1}, 0x1p60, 0x1p60); !slices.Equal(y, list{0}) { // the difference first
		t.Errorf("Slide = %v", y)
	}
	if y := mustSlide(t, list{complex(inf, minusZero)}, 1, complex(1, minusZero)); !alikeLists(y, list{complex(inf, minusZero)}) {
		t.Errorf("Slide = %v", y)
	}
}

func TestAtRefuses(t *testing.T) {
	long := make([]complex128, maxSide+5)
	for _, c := range []struct {
		size, at, jump, n int
		want              error
	}{
		{3, 0, 1, 0, api.ErrLength}, {3, 0, 1, -1, api.ErrLength}, {3, 0, 1, least, api.ErrLength}, {3, 0, 1, most, api.ErrLength},
		{maxSide + 5, 0, 1, maxSide + 1, api.ErrLength}, {maxSide + 5, 0, 1, maxSide + 2, api.ErrLength},
		{0, -1, 0, 0, api.ErrLength}, {3, 9, 1, maxSide + 1, api.ErrLength}, {3, -1, -1, -1, api.ErrLength}, // the length is told first
		{0, 0, 1, 1, api.ErrRange}, {3, 3, 1, 1, api.ErrRange}, {3, -1, 1, 1, api.ErrRange}, {3, -1, 1, 3, api.ErrRange}, {3, -2, 2, 2, api.ErrRange},
		{3, least, 1, 1, api.ErrRange}, {3, most, 1, 1, api.ErrRange}, {3, most, most, maxSide, api.ErrRange}, {3, least, most, 3, api.ErrRange},
		{0, 0, 2, 1, api.ErrRange}, {3, 3, 2, 1, api.ErrRange}, {3, 4, most, 1, api.ErrRange}, {3, most, most, 1, api.ErrRange}, // a jump that isn't taken
		{3, 0, 0, 1, api.ErrRange}, {3, 0, 0, 2, api.ErrRange}, {3, 2, -1, 1, api.ErrRange}, {3, 2, -1, 2, api.ErrRange}, {3, 0, least, 1, api.ErrRange},
		{3, 1, 2, 2, api.ErrRange}, {3, 0, 3, 2, api.ErrRange}, {3, 0, 1, 4, api.ErrRange}, {3, 1, 1, 3, api.ErrRange}, {3, 2, 1, 2, api.ErrRange},
		{3, 0, 1 << 62, 3, api.ErrRange}, {3, 0, 1 << 62, 5, api.ErrRange}, {3, 0, 1 << 62, 9, api.ErrRange}, {3, 1, 1 << 63 / 4, 5, api.ErrRange}, // the last place wraps round
		{3, 1, most, 2, api.ErrRange}, {3, 2, most, 3, api.ErrRange}, {3, 0, most, maxSide, api.ErrRange},
		{maxSide + 5, 6, 1, maxSide, api.ErrRange}, {maxSide + 5, 0, 2, maxSide, api.ErrRange},
		{maxSide + 5, 5, 1, maxSide, nil}, {maxSide + 5, 0, 1, maxSide, nil}, {3, 0, 2, 2, nil}, {3, 1, 1, 2, nil}, {3, 0, 1, 3, nil},
		{3, 2, 1, 1, nil}, {3, 2, most, 1, nil}, {3, 0, most, 1, nil}, {1, 0, 1, 1, nil},
	} {
		for _, k := range []int{0, 1, -1, most, least} {
			x := long[:c.size:c.size]
			if y, err := At(x, c.at, c.jump, c.n, k); err != c.want || !alikeParts(y, 0) && err != nil {
				t.Errorf("At of %d, from %d, jump %d, %d elements, %d: %v, %v, want %v", c.size, c.at, c.jump, c.n, k, y, err, c.want)
			}
		}
	}
	if _, err := At(nil, 0, 1, 1, 0); err != api.ErrRange {
		t.Errorf("At of nil: %v", err)
	}
}

// Spare room is no place of a list.
func TestAtKeepsOffSpareRoom(t *testing.T) {
	x := make([]complex128, 9)
	if y, err := At(x[:3], 0, 1, 4, 0); err != api.ErrRange || y != 0 {
		t.Errorf("At = %v, %v", y, err)
	}
}

func TestListsAreRefused(t *testing.T) {
	for _, x := range [][]complex128{nil, {}, make([]complex128, 0, 4), make([]complex128, maxSide+1), make([]complex128, 2*maxSide), make([]complex128, 1<<20)} {
		if y, err := Forward(x); err != api.ErrLength || len(y) != 0 {
			t.Errorf("Forward of %d: %d, %v", len(x), len(y), err)
		}
		if y, err := Inverse(x); err != api.ErrLength || len(y) != 0 {
			t.Errorf("Inverse of %d: %d, %v", len(x), len(y), err)
		}
		if y, err := Slide(x, 1, 2); err != api.ErrLength || len(y) != 0 {
			t.Errorf("Slide of %d: %d, %v", len(x), len(y), err)
		}
	}
	for _, n := range []int{1, maxSide} {
		x := make([]complex128, n)
		if len(mustForward(t, x)) != n || len(mustInverse(t, x)) != n || len(mustSlide(t, x, 1, 2)) != n {
			t.Errorf("lists of %d", n)
		}
	}
}

// What is handed in isn't changed, its spare room included; answers are new memory.
func TestMemory(t *testing.T) {
	calls := map[string]func(x []complex128) ([]complex128, error){
		"Forward": Forward,
		"Inverse": Inverse,
		"Slide":   func(x []complex128) ([]complex128, error) { return Slide(x, 1, 2i) },
		"At": func(x []complex128) ([]complex128, error) {
			v, err := At(x, 0, 1, len(x), 1)
			return []complex128{v}, err
		},
	}
	r := rand.New(rand.NewSource(5))
	for name, call := range calls {
		for _, n := range []int{1, 2, 5, 8, 100} {
			whole := byChance(r, n+4, kinds()[0])
			before := slices.Clone(whole)
			first, _ := call(whole[:n])
			if !alikeLists(whole, before) {
				t.Errorf("%s of %d changes what it is given", name, n)
			}
			want := slices.Clone(first)
			again, _ := call(whole[:n])
			clear(first[:cap(first)])
			third, _ := call(whole[:n])
			if !alikeLists(again, want) || !alikeLists(third, want) || !alikeLists(whole, before) {
				t.Errorf("%s of %d: the answer shares memory", name, n)
			}
			clear(whole)
			if !alikeLists(again, want) {
				t.Errorf("%s of %d: the answer shares memory with what was given", name, n)
			}
		}
	}
}

// given is a list that another program can make too.
func given(n int) []complex128 {
	state := uint64(n)
	part := func() float64 {
		state = state*6364136223846793005 + 1442695040888963407
		return math.Ldexp(float64(state>>11)-0x1p52, -45-int(state>>5%8))
	}
	out := make([]complex128, n)
	for i := range out {
		re := part()
		out[i] = complex(re, part())
	}
	return out
}

// sumOf is FNV-1a of the bits of a list, the lowest bytes first.
func sumOf(list []complex128) uint64 {
	sum := fnv.New64a()
	var b [8]byte
	for _, w := range list {
		for _, f := range []float64{real(w), imag(w)} {
			for i := range b {
				b[i] = byte(math.Float64bits(f) >> (8 * i))
			}
			sum.Write(b[:])
		}
	}
	return sum.Sum64()
}

// The bits of answers, reckoned by another program.
func TestKnownLists(t *testing.T) {
	for _, c := range []struct {
		n                             int
		given, forward, inverse, slid uint64
	}{
		{1, 0xc0bb13bf854db839, 0xc0bb13bf854db839, 0xc0bb13bf854db839, 0x056c99baf6cc7f83},
		{2, 0x37ea8b848c97b32c, 0x333701dd051d88b3, 0xa57d37efc9369153, 0x48320b5425238dd5},
		{3, 0x019cc4629fc2dab7, 0x3b4fb33226a53413, 0x9e5cf1a04ec9e85c, 0xd30389299d27d875},
		{4, 0x6bd415b96f10936e, 0xb3fae709f3e8ddd0, 0xc4b3dbfb5288c541, 0x678cf36b73f04c1b},
		{5, 0x7db36411a119c637, 0x1524aa19aafa641e, 0x5b0c892407314edb, 0x85b220a2f19a0d08},
		{6, 0xaee3e4c6c5909d5c, 0xe941ae5d4ba6e946, 0xddcaae8b3fd5cffd, 0xdbc7fec4e015fa25},
		{7, 0x9b4778c2243e09f0, 0x17a621716fc22361, 0xf9645ac3c0d8d8dc, 0x63632d633b8142c1},
		{8, 0x230d6a0be044b69f, 0x4041f495b8881eef, 0x7ac4accb8edc9462, 0xc22b4318c7ad3ecb},
		{12, 0xa2e7da2fd04e349b, 0x49fef9f7be53e78e, 0x3fee9ea5710b5b08, 0x8f16cbc4be4cf70e},
		{17, 0x354ac7f0e8762ec0, 0x8c42f345c3344990, 0x22030e645a744b28, 0xfee2dbbb1e87d2bb},
		{64, 0x29b96bb701e9878f, 0xc7c19f52f5d74dcc, 0xf8292b2af647eff4, 0xd3854135cdf610ec},
		{97, 0xebf977d0e3b9bab9, 0xf34f84fa3bf62f8e, 0x90ca1a1f5fb74382, 0x410bf9018a325148},
		{360, 0x0d3d890c146cc00e, 0xb3df2bcbd37ce0a6, 0x231fef15a21ae2ce, 0x14ac8c1213954d5b},
		{1023, 0x5e9296a7eb7a1c81, 0xcd609d0f2ea5828f, 0x92367dbfab6e95b3, 0x78a39527d980864c},
		{1024, 0x35df9b389a048eb8, 0x3e5f120779410f35, 0xbc40887d1391bda4, 0x0888b5da2ed1a728},
	} {
		x := given(c.n + 2)
		gone, v := x[c.n], x[c.n+1]
		x = x[:c.n]
		for name, pair := range map[string][2]uint64{
			"the list": {sumOf(x), c.given},
			"Forward":  {sumOf(mustForward(t, x)), c.forward},
			"Inverse":  {sumOf(mustInverse(t, x)), c.inverse},
			"Slide":    {sumOf(mustSlide(t, x, gone, v)), c.slid},
		} {
			if pair[0] != pair[1] {
				t.Errorf("%d: the sum of %s is %x, want %x", c.n, name, pair[0], pair[1])
			}
		}
	}
}

// The transforms lie where the definition says, the sliding one too.
func TestNear(t *testing.T) {
	r := rand.New(rand.NewSource(6))
	near := func(a, b []complex128) bool {
		return slices.EqualFunc(a, b, func(a, b complex128) bool { return cplx.Abs(a-b) < 1e-11 })
	}
	for _, n := range []int{1, 2, 3, 5, 16, 31, 100, 256} {
		x := byChance(r, n+1, kinds()[0])
		var want []complex128
		for k := range n {
			var sum complex128
			for j, v := range x[:n] {
				s, c := math.Sincos(2 * math.Pi * float64(j*k%n) / float64(n))
				sum += v * complex(c, -s)
			}
			want = append(want, sum)
		}
		y := mustForward(t, x[:n])
		if !near(y, want) || !near(mustInverse(t, y), x[:n]) {
			t.Errorf("Forward and Inverse of %d", n)
		}
		if !near(mustSlide(t, y, x[0], x[n]), mustForward(t, x[1:])) {
			t.Errorf("Slide of %d", n)
		}
	}
}
