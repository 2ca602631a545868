package sums

import (
	"math"
	"math/rand"
	"slices"
	"testing"

	"timbre/api"
	"timbre/bits"
	"timbre/cplx"
)

const (
	least  = 0x1p-1074 // the least float above 0
	normal = 0x1p-1022 // the least normal float
	most   = math.MaxFloat64
)

var (
	minusZero = math.Copysign(0, -1)
	inf       = math.Inf(1)
	nan       = math.NaN()
	otherNaN  = math.Float64frombits(0xfff0000000000001) // with a sign, and not quiet
)

// The oracle's operations: calls that aren't inlined, so that no two of them can be fused.

//go:noinline
func add(x, y float64) float64 { return x + y }

//go:noinline
func sub(x, y float64) float64 { return x - y }

//go:noinline
func mul(x, y float64) float64 { return x * y }

func alike(x, y float64) bool {
	return math.Float64bits(x) == math.Float64bits(y) || x != x && y != y
}

func alikeParts(a, b complex128) bool {
	return alike(real(a), real(b)) && alike(imag(a), imag(b))
}

// edges are floats of every class, and those about which sums are rounded.
func edges() []float64 {
	return []float64{0, minusZero, least, -least, normal - least, normal, -normal, 0x1p-60, 0x1p-53, -0x1p-53, 0x1p-52, 0.1, 1, -1, 1 + 0x1p-52, 3, 1e16, -1e16, 0x1p53, 0x1p970, -0x1p970, 0x1p1023, most, -most, inf, -inf, nan, otherNaN}
}

// kinds are ways to choose a float by chance.
func kinds() []func(r *rand.Rand) float64 {
	all := edges()
	around := func(r *rand.Rand, power int) float64 { return math.Ldexp(r.Float64()-0.5, power) }
	return []func(r *rand.Rand) float64{
		func(r *rand.Rand) float64 { return around(r, 0) },
		func(r *rand.Rand) float64 { return around(r, r.Intn(120)-60) },
		func(r *rand.Rand) float64 { return around(r, r.Intn(2100)-1075) },
		func(r *rand.Rand) float64 { return around(r, -1020-r.Intn(50)) },
		func(r *rand.Rand) float64 { return around(r, 1024-r.Intn(4)) },
		func(r *rand.Rand) float64 { return float64(r.Intn(9) - 4) },
		func(r *rand.Rand) float64 { return math.Ldexp(float64(2*r.Intn(2)-1), r.Intn(110)-55) },
		func(r *rand.Rand) float64 { return all[r.Intn(2)] },
		func(r *rand.Rand) float64 { return all[r.Intn(len(all)-4)] }, // finite
		func(r *rand.Rand) float64 { return all[r.Intn(len(all))] },
		func(r *rand.Rand) float64 { return math.Float64frombits(r.Uint64()) },
	}
}

func byChance(r *rand.Rand, n int, kind func(r *rand.Rand) float64) []float64 {
	list := make([]float64, n)
	for i := range list {
		list[i] = kind(r)
	}
	return list
}

// eachList tells all lists of up to three edges, and lists of each kind and many lengths, the seed always the same.
func eachList(do func(list []float64)) {
	do(nil)
	for _, x := range edges() {
		do([]float64{x})
		for _, y := range edges() {
			do([]float64{x, y})
			for _, z := range edges() {
				do([]float64{x, y, z})
			}
		}
	}
	r := rand.New(rand.NewSource(1))
	for _, kind := range kinds() {
		for n := range 70 {
			for range 4 {
				do(byChance(r, n, kind))
			}
		}
		for _, n := range []int{127, 128, 129, 1000, 4095, 4097} {
			do(byChance(r, n, kind))
		}
	}
}

func wantLeft(list []float64) float64 {
	var sum float64
	for i, x := range list {
		if i == 0 {
			sum = x
		} else {
			sum = add(sum, x)
		}
	}
	return sum
}

// wantPair sums by halves those from the place at on.
func wantPair(list []float64, at, n int) float64 {
	if n == 0 {
		return 0
	}
	if n == 1 {
		return list[at]
	}
	h := (n + 1) / 2
	return add(wantPair(list, at, h), wantPair(list, at+h, n-h))
}

func wantKept(list []float64) float64 {
	if len(list) == 0 {
		return 0
	}
	if len(list) == 1 {
		return list[0]
	}
	s, c := list[0], 0.0
	for i := 1; i < len(list); i++ {
		x := list[i]
		t := add(s, x)
		if math.Abs(s) >= math.Abs(x) {
			c = add(c, add(sub(s, t), x))
		} else {
			c = add(c, add(sub(x, t), s))
		}
		s = t
	}
	return add(s, c)
}

func TestSums(t *testing.T) {
	eachList(func(list []float64) {
		for _, c := range []struct {
			name      string
			got, want float64
		}{
			{"Left", Left(list), wantLeft(list)},
			{"Pair", Pair(list), wantPair(list, 0, len(list))},
			{"Kept", Kept(list), wantKept(list)},
			{"Exact", Exact(list), wantExact(list)},
		} {
			if !alike(c.got, c.want) {
				t.Fatalf("%s of %v is %v, want %v", c.name, list, c.got, c.want)
			}
		}
	})
}

func TestSumsByHand(t *testing.T) {
	type list = []float64
	for _, c := range []struct {
		list                    list
		left, pair, kept, exact float64
	}{
		{nil, 0, 0, 0, 0},
		{list{}, 0, 0, 0, 0},
		{list{minusZero}, minusZero, minusZero, minusZero, minusZero},
		{list{-inf}, -inf, -inf, -inf, -inf},
		{list{nan}, nan, nan, nan, nan},
		{list{otherNaN}, nan, nan, nan, nan},
		{list{-least}, -least, -least, -least, -least},
		{list{-most}, -most, -most, -most, -most},
		{list{1e16, 1, 1, -1e16}, 0, 0, 2, 2},
		{list{1, 1e16, -1e16, 1}, 1, 0, 2, 2},
		{list{minusZero, minusZero}, minusZero, minusZero, 0, minusZero},
		{list{minusZero, minusZero, minusZero}, minusZero, minusZero, 0, minusZero},
		{list{0, minusZero}, 0, 0, 0, 0},
		{list{minusZero, 0}, 0, 0, 0, 0},
		{list{minusZero, minusZero, 0}, 0, 0, 0, 0},
		{list{1, -1, minusZero}, 0, 0, 0, 0},
		{list{minusZero, -1, 1}, 0, 0, 0, 0},
		{list{inf, 1}, inf, inf, nan, inf},
		{list{1, -inf, -1}, -inf, -inf, nan, -inf},
		{list{inf, inf}, inf, inf, nan, inf},
		{list{inf, -inf}, nan, nan, nan, nan},
		{list{-inf, 5, inf}, nan, nan, nan, nan},
		{list{1, nan, inf}, nan, nan, nan, nan},
		{list{inf, most, most, -most}, inf, inf, nan, inf},
		{list{most, most}, inf, inf, nan, inf},
		{list{-most, -most}, -inf, -inf, nan, -inf},
		{list{most, most, -most}, inf, inf, nan, most},
		{list{-most, -most, most, minusZero}, -inf, -inf, nan, -most},
		{list{most, most, -most, -most}, inf, nan, nan, 0},
		{list{1, 0x1p-53}, 1, 1, 1, 1},
		{list{1, 0x1p-53, least}, 1, 1, 1, 1 + 0x1p-52},
		{list{1, 0x1p-53, -least}, 1, 1, 1, 1},
		{list{least, -least}, 0, 0, 0, 0},
		{list{normal, -least}, normal - least, normal - least, normal - least, normal - least},
		// Halves of 2 and 1, of 3 and 2, of 4 and 3: with the shorter half first the sums by halves would be 2 more.
		{list{0x1p53, 1, 1}, 0x1p53, 0x1p53, 0x1p53 + 2, 0x1p53 + 2},
		{list{0x1p53, 1, 1, 1, 1}, 0x1p53, 0x1p53 + 2, 0x1p53 + 4, 0x1p53 + 4},
		{list{0x1p53, 1, 1, 1, 1, 1, 1}, 0x1p53, 0x1p53 + 4, 0x1p53 + 6, 0x1p53 + 6},
	} {
		if got := Left(c.list); !alike(got, c.left) {
			t.Errorf("Left of %v is %v, want %v", c.list, got, c.left)
		}
		if got := Pair(c.list); !alike(got, c.pair) {
			t.Errorf("Pair of %v is %v, want %v", c.list, got, c.pair)
		}
		if got := Kept(c.list); !alike(got, c.kept) {
			t.Errorf("Kept of %v is %v, want %v", c.list, got, c.kept)
		}
		if got := Exact(c.list); !alike(got, c.exact) {
			t.Errorf("Exact of %v is %v, want %v", c.list, got, c.exact)
		}
	}
}

// P9.3, with sums of just 2^53 among them.
func TestWholeNumbers(t *testing.T) {
	check := func(list []float64) {
		t.Helper()
		whole, size := int64(0), int64(0)
		for _, x := range list {
			if !bits.Whole(x) || math.Abs(x) > 0x1p53 {
				t.Fatalf("%v is no such number", x)
			}
			whole += int64(x)
			size += max(int64(x), -int64(x))
		}
		if size > 1<<53 {
			t.Fatalf("the numbers sum to %d", size)
		}
		for i, got := range []float64{Left(list), Pair(list), Kept(list), Exact(list)} {
			if got != float64(whole) {
				t.Fatalf("way %d of summing %v: %v, want %d", i, list, got, whole)
			}
		}
	}
	for _, list := range [][]float64{{0x1p53}, {-0x1p53}, {0x1p53 - 1, 1}, {1, 0x1p53 - 1}, {-1, 1 - 0x1p53}, {0x1p52, 0x1p52}, {0x1p52, -0x1p52}, {0x1p53 - 1, -1}, {1, minusZero, 0x1p53 - 3, 1, 0, 1}, {minusZero}, {minusZero, 0}, nil} {
		check(list)
	}
	r := rand.New(rand.NewSource(2))
	for n := 1; n < 300; n++ {
		list := make([]float64, n)
		for left, i := int64(1)<<53, 0; i < n; i++ {
			x := left >> r.Intn(20)
			if n%2 == 0 {
				x = min(left, r.Int63n(left/8+1))
			}
			if i == n-1 && n%3 == 0 {
				x = left // all together just 2^53
			}
			left -= x
			list[i] = float64(x) * float64(2*r.Intn(2)-1)
		}
		r.Shuffle(n, func(i, j int) { list[i], list[j] = list[j], list[i] })
		check(list)
	}
}

func parts(list []complex128) (reals, imags []float64) {
	for _, z := range list {
		reals, imags = append(reals, real(z)), append(imags, imag(z))
	}
	return reals, imags
}

// eachComplex tells lists of complex numbers whose parts are of each two kinds.
func eachComplex(do func(list []complex128)) {
	do(nil)
	do([]complex128{})
	for _, x := range edges() {
		for _, y := range edges() {
			do([]complex128{complex(x, y)})
			do([]complex128{complex(x, y), complex(y, minusZero)})
		}
	}
	r := rand.New(rand.NewSource(3))
	for _, first := range kinds() {
		for _, second := range kinds() {
			for n := range 20 {
				list := make([]complex128, n)
				for i := range list {
					list[i] = complex(first(r), second(r))
				}
				do(list)
			}
		}
	}
}

// P9.5.
func TestComplexSums(t *testing.T) {
	eachComplex(func(list []complex128) {
		reals, imags := parts(list)
		if got, want := LeftC(list), complex(wantLeft(reals), wantLeft(imags)); !alikeParts(got, want) {
			t.Fatalf("LeftC of %v is %v, want %v", list, got, want)
		}
		if got, want := PairC(list), complex(wantPair(reals, 0, len(list)), wantPair(imags, 0, len(list))); !alikeParts(got, want) {
			t.Fatalf("PairC of %v is %v, want %v", list, got, want)
		}
		if !alikeParts(LeftC(list), complex(Left(reals), Left(imags))) || !alikeParts(PairC(list), complex(Pair(reals), Pair(imags))) {
			t.Fatalf("the sums of %v aren't those of the parts", list)
		}
	})
}

func TestComplexSumsByHand(t *testing.T) {
	list := []complex128{complex(1e16, 0x1p53), complex(1, 1), complex(1, 1), complex(-1e16, 1), complex(minusZero, 1)}
	if got := LeftC(list); !alikeParts(got, complex(0, 0x1p53)) {
		t.Error("LeftC:", got)
	}
	if got := PairC(list); !alikeParts(got, complex(0, 0x1p53+2)) {
		t.Error("PairC:", got)
	}
	low := complex(minusZero, minusZero)
	for _, list := range [][]complex128{{low}, {low, low}, {low, low, low}} {
		if !alikeParts(LeftC(list), low) || !alikeParts(PairC(list), low) {
			t.Errorf("of %v: %v, %v", list, LeftC(list), PairC(list))
		}
	}
	if !alikeParts(LeftC(nil), 0) || !alikeParts(PairC(nil), 0) {
		t.Error("the sums of none:", LeftC(nil), PairC(nil))
	}
}

// wantDot is the sum of the products, operation by operation.
func wantDot(a, b []complex128) complex128 {
	var reals, imags []float64
	for i := range a {
		x, y, u, v := real(a[i]), imag(a[i]), real(b[i]), imag(b[i])
		reals = append(reals, sub(mul(x, u), mul(y, v)))
		imags = append(imags, add(mul(x, v), mul(y, u)))
	}
	return complex(wantLeft(reals), wantLeft(imags))
}

func TestDot(t *testing.T) {
	var before []complex128
	eachComplex(func(list []complex128) {
		n := min(len(list), len(before))
		for _, c := range [][2][]complex128{{list, list}, {list[:n], before[:n]}, {before[:n], list[:n]}} {
			got, err := Dot(c[0], c[1])
			if want := wantDot(c[0], c[1]); err != nil || !alikeParts(got, want) {
				t.Fatalf("Dot of %v and %v is %v, %v, want %v", c[0], c[1], got, err, want)
			}
		}
		before = list
	})
}

func TestDotByHand(t *testing.T) {
	type list = []complex128
	low := complex(minusZero, minusZero)
	for _, c := range []struct {
		a, b list
		want complex128
	}{
		{nil, nil, 0},
		{nil, list{}, 0},
		{list{1i}, list{1i}, complex(-1, 0)},
		{list{complex(1, 2), complex(3, 4)}, list{complex(5, 6), complex(7, 8)}, complex(-18, 68)}, // (-7, 16) and (-11, 52)
		{list{complex(inf, 0)}, list{1i}, complex(nan, inf)},                                       // nothing is mended
		{list{0}, list{complex(-1, 1)}, complex(minusZero, 0)},                                     // -0 less 0, and 0 and -0: a 0 ahead of it would make it 0
		{list{0, 0}, list{complex(-1, 1), complex(-1, 1)}, complex(minusZero, 0)},
		{list{low}, list{complex(1, -1)}, complex(minusZero, 0)},
		{list{1e8, 1, 1, -1e8}, list{1e8, 1, 1, 1e8}, 0}, // from the left: what is lost isn't kept
	} {
		if got, err := Dot(c.a, c.b); err != nil || !alikeParts(got, c.want) {
			t.Errorf("Dot of %v and %v is %v, %v, want %v", c.a, c.b, got, err, c.want)
		}
	}
}

func TestDotOfUnlikeLengths(t *testing.T) {
	all := []complex128{1, complex(nan, inf), 3, 4, 5}
	for n := range 6 {
		for m := range 6 {
			got, err := Dot(all[:n], all[:m])
			if n != m && (err != api.ErrLength || !alikeParts(got, 0)) {
				t.Errorf("Dot of %d and %d elements is %v, %v", n, m, got, err)
			}
			if n == m && err != nil {
				t.Errorf("Dot of %d elements: %v", n, err)
			}
		}
	}
	if _, err := Dot(nil, all); err != api.ErrLength {
		t.Error("Dot of none and five:", err)
	}
}

func TestPower(t *testing.T) {
	eachComplex(func(list []complex128) {
		var norms, told []float64
		for _, z := range list {
			norms = append(norms, add(mul(real(z), real(z)), mul(imag(z), imag(z))))
			told = append(told, cplx.Norm(z))
		}
		got := Power(list)
		if want := wantLeft(norms); !alike(got, want) || !alike(got, Left(told)) {
			t.Fatalf("Power of %v is %v, want %v", list, got, want)
		}
	})
	for _, c := range []struct {
		list []complex128
		want float64
	}{
		{nil, 0}, {[]complex128{complex(minusZero, minusZero)}, 0}, {[]complex128{complex(3, 4), complex(0, -2)}, 29}, {[]complex128{1e200, 1}, inf},
		{[]complex128{0x1p27, 1, 1}, 0x1p54}, {[]complex128{1, 1, 0x1p27}, 0x1p54}, {[]complex128{1, 1, 1, 0x1p27}, 0x1p54 + 4},
		{[]complex128{complex(inf, nan)}, nan}, {[]complex128{complex(-inf, 1), 1}, inf},
	} {
		if got := Power(c.list); !alike(got, c.want) {
			t.Errorf("Power of %v is %v, want %v", c.list, got, c.want)
		}
	}
}

func rawBits(list []float64) []uint64 {
	var out []uint64
	for _, x := range list[:cap(list)] {
		out = append(out, math.Float64bits(x))
	}
	return out
}

// What is handed in isn't changed, its spare room included.
func TestListsAreNotChanged(t *testing.T) {
	back := []float64{1e16, 1, otherNaN, -1e16, minusZero, 3, inf, 7, least}
	pairs := make([]complex128, 9)
	for i, x := range back {
		pairs[i] = complex(x, back[8-i])
	}
	floats, others := rawBits(back), rawBits(slices.Concat(parts(pairs)))
	for n := range 10 {
		Left(back[:n])
		Pair(back[:n])
		Kept(back[:n])
		Exact(back[:n])
		LeftC(pairs[:n])
		PairC(pairs[:n])
		Dot(pairs[:n], pairs[9-n:])
		Dot(pairs[:n], pairs[n:])
		Power(pairs[:n])
	}
	if !slices.Equal(rawBits(back), floats) || !slices.Equal(rawBits(slices.Concat(parts(pairs))), others) {
		t.Errorf("changed: %v, %v", back, pairs)
	}
}

// Long lists: halves that are told by a formula, and sums that many numbers come to.
func TestLongLists(t *testing.T) {
	const n = 1 << 21
	list := make([]float64, n)
	for i := range list {
		list[i] = 0.1
	}
	if got := Pair(list); got != 0.1*n { // doubled over and over, which is exact
		t.Errorf("Pair of 2^21 times 0.1 is %v", got)
	}
	if got := Exact(list); got != 0.1*n {
		t.Errorf("Exact of 2^21 times 0.1 is %v", got)
	}
	if got := Left(list); got == 0.1*n || math.Abs(got-0.1*n) > 0.01 {
		t.Errorf("Left of 2^21 times 0.1 is %v", got)
	}
	if got := Kept(list); math.Abs(got-0.1*n) > 0x1p-30 {
		t.Errorf("Kept of 2^21 times 0.1 is %v", got)
	}
}
