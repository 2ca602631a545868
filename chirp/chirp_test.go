package chirp

import (
	"hash/fnv"
	"math"
	"math/big"
	"math/rand"
	"slices"
	"testing"

	"timbre/api"
	"timbre/roots"
)

// The chapter's numbers.
const (
	maxInner = 16384
	maxZoom  = 4194304
	maxSums  = 1048576
	most     = math.MaxInt
	least    = math.MinInt
)

var (
	minusZero = math.Copysign(0, -1)
	inf       = math.Inf(1)
	nan       = math.NaN()
	otherNaN  = math.Float64frombits(0xfff0000000000001) // with a sign, and not quiet
)

// The oracle's operations: calls that aren't inlined, so that no two of them can be fused.

//go:noinline
func add(x, y float64) float64 { return x + y }

//go:noinline
func sub(x, y float64) float64 { return x - y }

//go:noinline
func mul(x, y float64) float64 { return x * y }

// root is w(n, k) for a whole number k without a bound.
func root(n int, k *big.Int) complex128 {
	rest := new(big.Int).Mod(k, big.NewInt(int64(n)))
	w, err := roots.Root(n, int(rest.Int64()))
	if err != nil {
		panic(err)
	}
	return w
}

func whole(n int) *big.Int { return big.NewInt(int64(n)) }

// wantAt is the chirp j of n by the chapter's words.
func wantAt(n, j int) complex128 {
	return root(2*n, new(big.Int).Mul(whole(j), whole(j)))
}

// turnedSign is f with its sign turned, by its bits.
func turnedSign(f float64) float64 {
	return math.Float64frombits(math.Float64bits(f) ^ 1<<63)
}

func conj(a complex128) complex128 { return complex(real(a), turnedSign(imag(a))) }

// wantOther is the other list by the chapter's words, element by element.
func wantOther(n, m int) []complex128 {
	out := make([]complex128, m)
	for place := range out {
		for j := range n {
			if place == j || j > 0 && place == m-j {
				out[place] = conj(wantAt(n, j))
			}
		}
	}
	return out
}

// twist is a twisted by w(m, k), for a k without a bound.
func twist(a complex128, m int, k *big.Int) complex128 {
	if new(big.Int).Mod(k, whole(m)).Sign() == 0 {
		return a
	}
	w := root(m, k)
	re := sub(mul(real(a), real(w)), mul(imag(a), imag(w)))
	im := add(mul(real(a), imag(w)), mul(imag(a), real(w)))
	return complex(re, im)
}

// wantZoom is Zoom by the chapter's words, in whole numbers without a bound.
func wantZoom(x []complex128, m, from, count int) []complex128 {
	var out []complex128
	for k := range count {
		place := new(big.Int).Add(whole(from), whole(k))
		re, im := real(x[0]), imag(x[0])
		for j := 1; j < len(x); j++ {
			t := twist(x[j], m, new(big.Int).Mul(whole(j), place))
			re, im = add(re, real(t)), add(im, imag(t))
		}
		out = append(out, complex(re, im))
	}
	return out
}

func alike(x, y float64) bool {
	return math.Float64bits(x) == math.Float64bits(y) || x != x && y != y
}

func alikeParts(a, b complex128) bool {
	return alike(real(a), real(b)) && alike(imag(a), imag(b))
}

func alikeLists(a, b []complex128) bool { return slices.EqualFunc(a, b, alikeParts) }

// edges are floats of every class.
func edges() []float64 {
	return []float64{0, minusZero, 0x1p-1074, -0x1p-1022, 0x1p-60, 0.1, 1, -1, 1 + 0x1p-52, -3, 1e16, 0x1p1023, math.MaxFloat64, -math.MaxFloat64, inf, -inf, nan, otherNaN}
}

// kinds are ways to choose a float by chance.
func kinds() []func(r *rand.Rand) float64 {
	all := edges()
	around := func(r *rand.Rand, power int) float64 { return math.Ldexp(r.Float64()-0.5, power) }
	return []func(r *rand.Rand) float64{
		func(r *rand.Rand) float64 { return around(r, 0) },
		func(r *rand.Rand) float64 { return around(r, r.Intn(120)-60) },
		func(r *rand.Rand) float64 { return around(r, r.Intn(2100)-1075) },
		func(r *rand.Rand) float64 { return around(r, -1020-r.Intn(50)) },
		func(r *rand.Rand) float64 { return around(r, 1024-r.Intn(4)) },
		func(r *rand.Rand) float64 { return float64(r.Intn(9) - 4) },
		func(r *rand.Rand) float64 { return all[r.Intn(2)] },
		func(r *rand.Rand) float64 { return all[r.Intn(len(all)-4)] }, // finite
		func(r *rand.Rand) float64 { return all[r.Intn(len(all))] },
		func(r *rand.Rand) float64 { return math.Float64frombits(r.Uint64()) },
	}
}

func byChance(r *rand.Rand, n int, kind func(r *rand.Rand) float64) []complex128 {
	list := make([]complex128, n)
	for i := range list {
		list[i] = complex(kind(r), kind(r))
	}
	return list
}

func mustAt(t *testing.T, n, j int) complex128 {
	t.Helper()
	c, err := At(n, j)
	if err != nil {
		t.Fatalf("At(%d, %d): %v", n, j, err)
	}
	return c
}

func mustList(t *testing.T, n int) []complex128 {
	t.Helper()
	list, err := List(n)
	if err != nil {
		t.Fatalf("List(%d): %v", n, err)
	}
	return list
}

func mustOther(t *testing.T, n, m int) []complex128 {
	t.Helper()
	list, err := Other(n, m)
	if err != nil {
		t.Fatalf("Other(%d, %d): %v", n, m, err)
	}
	return list
}

func mustZoom(t *testing.T, x []complex128, m, from, count int) []complex128 {
	t.Helper()
	y, err := Zoom(x, m, from, count)
	if err != nil {
		t.Fatalf("Zoom of %d by %d, from %d, %d: %v", len(x), m, from, count, err)
	}
	return y
}

// lengths are short ones, those round powers of two, and others by chance, up to the greatest.
func lengths() []int {
	out := []int{1000, 8191, 8192, 8193, maxInner - 2, maxInner - 1, maxInner}
	for n := 1; n <= 70; n++ {
		out = append(out, n)
	}
	for n := 128; n < maxInner; n *= 2 {
		out = append(out, n-1, n, n+1)
	}
	r := rand.New(rand.NewSource(1))
	for range 30 {
		out = append(out, 1+r.Intn(maxInner))
	}
	return out
}

// numbers are numbers of chirps of n: those by its multiples, of either sign, very great ones, and others by chance.
func numbers(r *rand.Rand, n int) []int {
	out := []int{most, most - 1, least, least + 1, least + 2, 1 << 31, -1 << 31, 1 << 32, 1<<32 + 1, 1 << 62, -1 << 62, 3037000499, 3037000500, -3037000500, most / n * n, least / n * n}
	for part := -8; part <= 8; part++ {
		for off := -1; off <= 1; off++ {
			out = append(out, part*n/2+off)
		}
	}
	for range 40 {
		out = append(out, r.Intn(n), int(r.Uint64()), int(r.Uint64()>>uint(r.Intn(64))))
	}
	return out
}

// wrongLengths have no chirps.
func wrongLengths() []int {
	return []int{0, -1, -2, -4, -maxInner, least, least + 1, least / 2, maxInner + 1, maxInner + 2, 2 * maxInner, maxZoom, 1 << 32, 1<<32 + 1, 1 << 62, 1<<62 + 1, most - 1, most}
}

// The chapter's examples, and the document's.
func TestExamples(t *testing.T) {
	type list = []complex128
	for _, c := range []struct {
		n, j int
		want complex128
	}{
		{1, 0, 1}, {1, 9, -1}, {2, 1, complex(0, -1)}, {2, 3, complex(0, -1)}, {4, 2, -1}, {2, 0, 1},
		{1, most, -1}, {1, least, 1}, {1, -1, -1}, {2, least, 1}, {2, most, complex(0, -1)}, {2, -1, complex(0, -1)},
	} {
		if got := mustAt(t, c.n, c.j); !alikeParts(got, c.want) {
			t.Errorf("At(%d, %d) = %v, want %v", c.n, c.j, got, c.want)
		}
	}
	if got := mustList(t, 2); !alikeLists(got, list{1, complex(0, -1)}) {
		t.Errorf("List(2) = %v", got)
	}
	for _, c := range []struct {
		n, m int
		want list
	}{
		{2, 4, list{complex(1, minusZero), complex(0, 1), 0, complex(0, 1)}},
		{2, 3, list{complex(1, minusZero), complex(0, 1), complex(0, 1)}},
		{1, 1, list{complex(1, minusZero)}},
		{1, 3, list{complex(1, minusZero), 0, 0}},
	} {
		if got := mustOther(t, c.n, c.m); !alikeLists(got, c.want) {
			t.Errorf("Other(%d, %d) = %v, want %v", c.n, c.m, got, c.want)
		}
	}
	// c_2 of 4 is -1: its conjugate has a nought with a sign, those beside the chirps have none.
	if got := mustOther(t, 4, 8); !alikeParts(got[2], complex(-1, minusZero)) || !alikeParts(got[6], complex(-1, minusZero)) || !alikeParts(got[4], 0) {
		t.Errorf("Other(4, 8) = %v", got)
	}
	for _, c := range []struct {
		x              list
		m, from, count int
		want           list
	}{
		{list{1, 2}, 2, 0, 2, list{3, -1}},
		{list{1, 2}, 2, 1, 1, list{-1}},
		{list{1, 2}, 2, 1, 0, nil},
		{list{1, 2}, 4, most, 2, list{1 + 2i, 3}},
		{list{1, 2}, 1, least, 3, list{3, 3, 3}},
		{list{7i}, 3, 5, 2, list{7i, 7i}},
	} {
		if got := mustZoom(t, c.x, c.m, c.from, c.count); !slices.Equal(got, c.want) {
			t.Errorf("Zoom of %v by %d, from %d, %d: %v, want %v", c.x, c.m, c.from, c.count, got, c.want)
		}
	}
}

// P13.1: the number of a chirp is squared as a whole number, whatever int it is.
func TestAt(t *testing.T) {
	check := func(n, j int) {
		t.Helper()
		if got, want := mustAt(t, n, j), wantAt(n, j); !alikeParts(got, want) {
			t.Fatalf("At(%d, %d) = %v, want %v", n, j, got, want)
		}
	}
	for n := 1; n <= 60; n++ {
		for j := -5 * n; j <= 5*n; j++ {
			check(n, j)
		}
	}
	r := rand.New(rand.NewSource(2))
	for _, n := range lengths() {
		for _, j := range numbers(r, n) {
			check(n, j)
		}
	}
}

// P13.1.
func TestList(t *testing.T) {
	for _, n := range lengths() {
		list := mustList(t, n)
		if len(list) != n {
			t.Fatalf("List(%d) has %d elements", n, len(list))
		}
		for j, c := range list {
			if !alikeParts(c, wantAt(n, j)) {
				t.Fatalf("List(%d): the chirp %d is %v", n, j, c)
			}
		}
	}
}

// P13.1.
func TestOther(t *testing.T) {
	check := func(n, m int) {
		t.Helper()
		if got, want := mustOther(t, n, m), wantOther(n, m); !alikeLists(got, want) {
			t.Fatalf("Other(%d, %d) = %v, want %v", n, m, got, want)
		}
	}
	for n := 1; n <= 20; n++ {
		for m := 2*n - 1; m <= 60; m++ {
			check(n, m)
		}
	}
	for _, c := range [][2]int{{1, maxInner}, {2, maxInner - 1}, {9, maxInner}, {97, 193}, {100, 256}, {500, 1000}, {1000, 1999}, {1000, 2048}} {
		check(c[0], c[1])
	}
}

// P13.1, at the greatest lengths.
func TestLongOthers(t *testing.T) {
	for _, c := range [][2]int{{8192, 16383}, {8192, maxInner}, {8191, 16381}, {8191, maxInner}, {4096, maxInner}, {4097, 8193}} {
		n, m := c[0], c[1]
		list := mustOther(t, n, m)
		if len(list) != m {
			t.Fatalf("Other(%d, %d) has %d elements", n, m, len(list))
		}
		for place, got := range list {
			want := complex128(0)
			if j := min(place, m-place); j < n {
				want = conj(wantAt(n, j))
			}
			if !alikeParts(got, want) {
				t.Fatalf("Other(%d, %d): the element %d is %v, want %v", n, m, place, got, want)
			}
		}
	}
}

func TestWrongLengthsAreRefused(t *testing.T) {
	for _, n := range wrongLengths() {
		for _, j := range []int{0, 1, -1, n, most, least} {
			if c, err := At(n, j); err != api.ErrLength || !alikeParts(c, 0) {
				t.Errorf("At(%d, %d) = %v, %v", n, j, c, err)
			}
		}
		if list, err := List(n); err != api.ErrLength || len(list) != 0 {
			t.Errorf("List(%d): %d chirps, %v", n, len(list), err)
		}
		for _, m := range []int{0, 1, 2*n - 1, 2 * n, maxInner, maxInner + 1, 2 * maxInner, 4 * maxInner, most, least, -1} {
			if list, err := Other(n, m); err != api.ErrLength || len(list) != 0 {
				t.Errorf("Other(%d, %d): %d elements, %v", n, m, len(list), err)
			}
		}
	}
}

func TestWrongOthersAreRefused(t *testing.T) {
	for n := 1; n <= 20; n++ {
		for m := -2; m < 2*n-1; m++ {
			if list, err := Other(n, m); err != api.ErrLength || len(list) != 0 {
				t.Errorf("Other(%d, %d): %d elements, %v", n, m, len(list), err)
			}
		}
	}
	for _, c := range [][2]int{
		{2, 2}, {1, 0}, {1, -1}, {1, least}, {1, maxInner + 1}, {1, most}, {2, maxInner + 1}, {2, 1 << 32}, {8192, 16382}, {8192, maxInner + 1},
		{8193, maxInner}, {8193, 16385}, {8193, 16386}, {maxInner, maxInner}, {maxInner, 2*maxInner - 1}, {maxInner, 2 * maxInner}, {maxInner, least},
	} {
		if list, err := Other(c[0], c[1]); err != api.ErrLength || len(list) != 0 {
			t.Errorf("Other(%d, %d): %d elements, %v", c[0], c[1], len(list), err)
		}
	}
}

// P13.1: Least and Size of all lengths, and of others.
func TestLeastAndSize(t *testing.T) {
	for n := 1; n <= maxInner; n++ {
		if got := Least(n); got != 2*n-1 {
			t.Fatalf("Least(%d) = %d", n, got)
		}
		want := 1
		for want < 2*n-1 {
			want += want
		}
		got, err := Size(n)
		if want <= maxInner && (got != want || err != nil) || want > maxInner && (got != 0 || err != api.ErrLength) {
			t.Fatalf("Size(%d) = %d, %v", n, got, err)
		}
	}
	for _, n := range wrongLengths() {
		if got := Least(n); got != 0 {
			t.Errorf("Least(%d) = %d", n, got)
		}
		if got, err := Size(n); got != 0 || err != api.ErrLength {
			t.Errorf("Size(%d) = %d, %v", n, got, err)
		}
	}
	for n, want := range map[int]int{1: 1, 2: 4, 3: 8, 4: 8, 5: 16, 8: 16, 9: 32, 4096: 8192, 4097: 16384, 8192: 16384} {
		if got, err := Size(n); got != want || err != nil {
			t.Errorf("Size(%d) = %d, %v", n, got, err)
		}
	}
	if got, err := Size(8193); got != 0 || err != api.ErrLength {
		t.Errorf("Size(8193) = %d, %v", got, err)
	}
}

// turns are numbers of parts of a turn.
func turns(r *rand.Rand) []int {
	out := []int{maxZoom, maxZoom - 1, maxZoom - 2, maxZoom / 2, maxInner, maxInner + 1, 4096, 1000, 97}
	for m := 1; m <= 12; m++ {
		out = append(out, m)
	}
	for range 5 {
		out = append(out, 1+r.Intn(maxZoom))
	}
	return out
}

// starts are places from which to zoom.
func starts(r *rand.Rand, m int) []int {
	return []int{0, 1, -1, m - 1, m, -m, 1 - m, r.Intn(m), -r.Intn(m), int(r.Uint64()), most, most - 1, most - 2, least, least + 1, most / m * m, least / m * m, 1 << 62, -1 << 62}
}

// P13.1.
func TestZoom(t *testing.T) {
	check := func(x []complex128, m, from, count int) {
		t.Helper()
		if got, want := mustZoom(t, x, m, from, count), wantZoom(x, m, from, count); !alikeLists(got, want) {
			t.Fatalf("Zoom of %v by %d, from %d, %d: %v, want %v", x, m, from, count, got, want)
		}
	}
	r := rand.New(rand.NewSource(3))
	for _, x := range edges() {
		for _, y := range edges() {
			check([]complex128{complex(x, y)}, 3, 1, 2)
			check([]complex128{complex(x, y), complex(y, x)}, 4, -1, 4)
			check([]complex128{complex(x, minusZero), complex(minusZero, y), complex(minusZero, minusZero)}, 3, 0, 3)
		}
	}
	for _, kind := range kinds() {
		for _, m := range turns(r) {
			for _, from := range starts(r, m) {
				check(byChance(r, 1+r.Intn(9), kind), m, from, r.Intn(6))
			}
		}
		check(byChance(r, 100, kind), 50, -77, 60)
		check(byChance(r, 3, kind), 7, most-3, 200)
	}
}

// Products of places beyond an int, and beyond the floats' whole numbers.
func TestZoomOfLongLists(t *testing.T) {
	r := rand.New(rand.NewSource(4))
	for _, m := range []int{maxZoom, maxZoom - 1, 3, 1 << 20} {
		for _, from := range []int{most, least, maxZoom - 1, 1<<43 + 5} {
			x := byChance(r, 20000, kinds()[1])
			if got, want := mustZoom(t, x, m, from, 2), wantZoom(x, m, from, 2); !alikeLists(got, want) {
				t.Fatalf("Zoom of %d by %d, from %d: %v, want %v", len(x), m, from, got, want)
			}
		}
	}
}

// The greatest work: as many elements in one sum as may be, as many sums, and both alike.
func TestZoomUpToItsBound(t *testing.T) {
	r := rand.New(rand.NewSource(5))
	for _, c := range []struct{ size, count int }{{1, maxSums}, {2, maxSums / 2}, {3, maxSums / 3}, {1024, 1024}, {1023, 1025}, {maxSums / 2, 2}, {maxSums - 1, 1}, {maxSums, 1}} {
		x := byChance(r, c.size, kinds()[0])
		from := most - c.count/2
		got := mustZoom(t, x, maxZoom-1, from, c.count)
		if len(got) != c.count {
			t.Fatalf("Zoom of %d, %d: %d elements", c.size, c.count, len(got))
		}
		for _, k := range []int{0, c.count / 2, c.count - 1} {
			place := new(big.Int).Add(whole(from), whole(k)) // it may be no int
			place.Mod(place, whole(maxZoom-1))
			if want := wantZoom(x, maxZoom-1, int(place.Int64()), 1); !alikeParts(got[k], want[0]) {
				t.Fatalf("Zoom of %d, %d: the element %d is %v, want %v", c.size, c.count, k, got[k], want[0])
			}
		}
	}
}

func TestZoomRefuses(t *testing.T) {
	long := make([]complex128, 2*maxSums)
	for _, c := range []struct {
		size, m, count int
		want           error
	}{
		{0, 2, 0, api.ErrLength}, {0, 2, 1, api.ErrLength}, {0, 0, -1, api.ErrLength}, {0, 1, most, api.ErrLength},
		{2, 0, 1, api.ErrLength}, {2, 0, 0, api.ErrLength}, {2, -1, 1, api.ErrLength}, {2, least, 0, api.ErrLength}, {1, 0, 0, api.ErrLength},
		{2, maxZoom + 1, 1, api.ErrLength}, {2, maxZoom + 1, 0, api.ErrLength}, {1, maxZoom + 1, 1, api.ErrLength}, {2, 2 * maxZoom, 1, api.ErrLength}, {2, most, 1, api.ErrLength}, {1, 1 << 32, 0, api.ErrLength},
		{2, 2, -1, api.ErrLength}, {2, 2, least, api.ErrLength}, {2 * maxSums, 2, -1, api.ErrLength}, {1, 1, -maxSums, api.ErrLength},
		{1, 2, maxSums + 1, api.ErrLength}, {2, 2, maxSums/2 + 1, api.ErrLength}, {3, 2, maxSums/3 + 1, api.ErrLength}, {1023, 2, 1026, api.ErrLength}, {1024, 2, 1025, api.ErrLength}, {1025, 2, 1024, api.ErrLength},
		{maxSums, 2, 2, api.ErrLength}, {maxSums - 1, 2, 2, api.ErrLength}, {maxSums/2 + 1, 2, 2, api.ErrLength}, {maxSums + 1, 2, 1, api.ErrLength}, {2 * maxSums, 2, 1, api.ErrLength},
		{1, 2, most, api.ErrLength}, {2, 2, 1 << 62, api.ErrLength}, {4, 2, 1 << 62, api.ErrLength}, {4, 2, 1<<62 + 1, api.ErrLength}, {16, 2, 1 << 60, api.ErrLength}, {maxSums, 2, 1 << 44, api.ErrLength}, {3, 2, most / 3 * 2, api.ErrLength}, // the product wraps round
		{1, 1, 0, nil}, {2, 2, 0, nil}, {maxSums, 1, 0, nil}, {maxSums + 1, 1, 0, nil}, {2 * maxSums, maxZoom, 0, nil}, {1, maxZoom, 1, nil}, {2, maxZoom, 1, nil}, {2, 1, 1, nil},
	} {
		for _, from := range []int{0, 1, most, least} {
			y, err := Zoom(long[:c.size:c.size], c.m, from, c.count)
			if err != c.want || err == nil && len(y) != c.count || err != nil && len(y) != 0 {
				t.Errorf("Zoom of %d by %d, from %d, %d: %d elements, %v, want %v", c.size, c.m, from, c.count, len(y), err, c.want)
			}
		}
	}
	if y, err := Zoom(nil, 1, 0, 0); err != api.ErrLength || len(y) != 0 {
		t.Errorf("Zoom of nil: %v, %v", y, err)
	}
	if y, err := Zoom(long[:0], 1, 0, 1); err != api.ErrLength || len(y) != 0 { // spare room is no element
		t.Errorf("Zoom of no element: %v, %v", y, err)
	}
}

// What is handed in isn't changed, its spare room included; answers are new memory.
func TestMemory(t *testing.T) {
	x := byChance(rand.New(rand.NewSource(6)), 12, kinds()[0])
	before := slices.Clone(x)
	for name, call := range map[string]func() ([]complex128, error){
		"List":        func() ([]complex128, error) { return List(9) },
		"List of one": func() ([]complex128, error) { return List(1) },
		"Other":       func() ([]complex128, error) { return Other(5, 12) },
		"Zoom":        func() ([]complex128, error) { return Zoom(x[:8], 5, 3, 4) },
		"Zoom of one": func() ([]complex128, error) { return Zoom(x[:1], 5, 3, 1) },
	} {
		first, _ := call()
		want := slices.Clone(first)
		again, _ := call()
		clear(first[:cap(first)])
		third, err := call()
		if err != nil || !alikeLists(again, want) || !alikeLists(third, want) {
			t.Errorf("%s shares memory with an earlier answer", name)
		}
		if !alikeLists(x, before) {
			t.Errorf("%s changes what was given, or shares it", name)
		}
		clear(x)
		if !alikeLists(again, want) {
			t.Errorf("%s shares memory with what was given", name)
		}
		copy(x, before)
	}
}

// given is a list that another program can make too.
func given(n int) []complex128 {
	state := uint64(n)
	part := func() float64 {
		state = state*6364136223846793005 + 1442695040888963407
		return math.Ldexp(float64(state>>11)-0x1p52, -45-int(state>>5%8))
	}
	out := make([]complex128, n)
	for i := range out {
		re := part()
		out[i] = complex(re, part())
	}
	return out
}

// sumOf is FNV-1a of the bits of a list, the lowest bytes first.
func sumOf(list []complex128) uint64 {
	sum := fnv.New64a()
	var b [8]byte
	for _, w := range list {
		for _, f := range []float64{real(w), imag(w)} {
			for i := range b {
				b[i] = byte(math.Float64bits(f) >> (8 * i))
			}
			sum.Write(b[:])
		}
	}
	return sum.Sum64()
}

// Bits of chirps, reckoned by another program.
func TestKnownBits(t *testing.T) {
	for _, c := range []struct {
		n, j       int
		real, imag uint64
	}{
		{3, 1, 0x3fdfffffffffffff, 0xbfebb67ae8584cab},
		{3, 2, 0xbfdfffffffffffff, 0x3febb67ae8584cab},
		{5, 3, 0x3fe9e3779b97f4a8, 0x3fe2cf2304755a5e},
		{7, 4, 0x3fe3f3a0e28bedd2, 0xbfe904c37505de4b},
		{11, -7, 0x3fc2375f640f44db, 0xbfefac9e043842ef},
		{97, 40, 0x3f9094ea73b6e8a4, 0xbfeffeed077438ae},
		{1000, 999, 0x3feffff5a6a681ff, 0xbf69bc62f04cce08},
		{4096, 1234, 0x3fe7c6b89ce2d333, 0x3fe56ac35197649e},
		{8192, 8191, 0x3fefffffd8858675, 0xbf3921fb49ee4ea6},
		{16383, 12345, 0x3fe574f2e24bcaab, 0xbfe7bd87d3994456},
		{16384, 1, 0x3feffffff621619c, 0xbf2921fb51aeb57b},
		{16384, 16383, 0x3feffffff621619c, 0xbf2921fb51aeb57b},
		{9, most, 0xbfc63a1a7e0b738a, 0x3fef838b8c811c17},
		{16383, most, 0xbfeff648e4c16c51, 0xbfa8ed94fda1408c},
		{16384, most, 0x3feffffff621619c, 0xbf2921fb51aeb57b},
		{16383, least, 0xbfeffffff62112a5, 0x3f29225fdb2e0d88},
		{12345, least + 1, 0x3fef3d0b9923d336, 0xbfcbc2335695969f},
		{7, -1<<62 - 3, 0xbff0000000000000, 0x0000000000000000},
	} {
		w := mustAt(t, c.n, c.j)
		if math.Float64bits(real(w)) != c.real || math.Float64bits(imag(w)) != c.imag {
			t.Errorf("At(%d, %d) = %x, %x", c.n, c.j, math.Float64bits(real(w)), math.Float64bits(imag(w)))
		}
	}
}

// The sums of lists, reckoned by another program.
func TestKnownLists(t *testing.T) {
	for _, c := range []struct {
		n   int
		sum uint64
	}{
		{1, 0x2f125cea1c5d04b8}, {2, 0x311d7bd4f471bc45}, {3, 0xb980222db89cf224}, {5, 0xd0f6965812010538}, {7, 0x8ada88fbf9cc0010},
		{12, 0x52191b851af33875}, {97, 0xd83801565034ed78}, {360, 0x246b3b7a103392e5}, {1000, 0x92942ba00e1dc8b5}, {1021, 0x7feee4a15854d3c8},
		{4096, 0x46e298a28d6bf595}, {6561, 0x3e6b6d82a7b6aefc}, {8192, 0x5f54fa03e2d33175}, {16383, 0x671a46a6465faa44}, {16384, 0x90db467d34a3a255},
	} {
		if sum := sumOf(mustList(t, c.n)); sum != c.sum {
			t.Errorf("List(%d): the sum %x", c.n, sum)
		}
	}
	for _, c := range []struct {
		n, m int
		sum  uint64
	}{
		{1, 1, 0x2f12dcea1c5dde38}, {1, 2, 0x9fef890b6342ac38}, {1, 16384, 0x9e587b6c8e9c9038}, {2, 3, 0xb61ba6d050e9a7f8}, {2, 4, 0x57c45b4197ec3eb8},
		{3, 5, 0x53a57109be2eb6f0}, {3, 8, 0x926359f1f817d1f0}, {5, 9, 0x151b1b065ab11b38}, {7, 16, 0x3cfb12c40a069148}, {11, 32, 0xeff0e85b630d4df8},
		{97, 200, 0x7e44cfdf92871fb8}, {360, 719, 0x2d705115d7f090b8}, {1000, 2000, 0x87572dbbb77763d8}, {4095, 8192, 0x3991ca3f584ea748},
		{4096, 8191, 0x606bf6f431df8778}, {8192, 16383, 0x638eafc26bc6fb78}, {8192, 16384, 0xe704f3db64dd8938}, {6000, 16384, 0xc1e6fb1dd7acd8d8},
	} {
		if sum := sumOf(mustOther(t, c.n, c.m)); sum != c.sum {
			t.Errorf("Other(%d, %d): the sum %x", c.n, c.m, sum)
		}
	}
}

// The sums of zoomed lists, reckoned by another program.
func TestKnownZooms(t *testing.T) {
	if sumOf(given(3)) != 0x5d42f93df8274bae {
		t.Fatal("the list that is given")
	}
	for _, c := range []struct {
		n, m, from, count int
		sum               uint64
	}{
		{1, 5, 3, 4, 0xf9d6b05e011a79a5},
		{2, 2, 0, 2, 0xba658428d59d76eb},
		{2, 3, 1, 4, 0xd83072f53eef4ca8},
		{3, 3, -7, 5, 0x0f0f0695665788dc},
		{5, 1, 2, 3, 0x4482c485318b8624},
		{5, 7, 2, 9, 0x8128bfec1c588611},
		{8, 8, 0, 8, 0x29211d2c593a12b1},
		{12, maxZoom, 12345, 6, 0x933bdfc2e29118e6},
		{17, maxZoom - 1, most, 4, 0x44c91e3770e9ac72},
		{40, maxZoom - 3, least, 5, 0xffb136c14c95301d},
		{30, 1000, most - 2, 7, 0x02dadb319b5ce965},
		{64, 100, -31, 10, 0x8f63a585d6a3f890},
		{360, 720, 0, 20, 0x364fe354eba84862},
		{1000, 4093, -1 << 62, 3, 0x74156f8ffc27d5ec},
		{4096, maxZoom, -5, 2, 0x8cb6d0fd1ad15d34},
	} {
		if sum := sumOf(mustZoom(t, given(c.n), c.m, c.from, c.count)); sum != c.sum {
			t.Errorf("Zoom of %d by %d, from %d, %d: the sum %x", c.n, c.m, c.from, c.count, sum)
		}
	}
}
