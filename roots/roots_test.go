package roots

import (
	"hash/fnv"
	"math"
	"math/rand"
	"testing"

	"timbre/api"
	"timbre/cplx"
)

const (
	maxTurn = 4194304              // the chapter's number
	half    = 0x1.6a09e667f3bcdp-1 // 3fe6a09e667f3bcd: the parts of an eighth of a turn
	round   = 0x1.921fb54442d18p+2 // 401921fb54442d18
	most    = math.MaxInt
	least   = math.MinInt
)

var (
	minusZero = math.Copysign(0, -1)
	inf       = math.Inf(1)
	nan       = math.NaN()
)

// The oracle's operations: calls that aren't inlined, so that no two of them can be fused.

//go:noinline
func sub(x, y float64) float64 { return x - y }

//go:noinline
func mul(x, y float64) float64 { return x * y }

//go:noinline
func quo(x, y float64) float64 { return x / y }

// lessProduct is how the oracle takes y times p from c.
type lessProduct func(c, y, p float64) float64

func inTwoSteps(c, y, p float64) float64 { return sub(c, mul(y, p)) }
func inOneStep(c, y, p float64) float64  { return math.FMA(-y, p, c) }

func factorial(n int) float64 {
	f := 1
	for i := 2; i <= n; i++ {
		f *= i
	}
	return float64(f)
}

// wantEighth is the eighth by the chapter's words.
func wantEighth(r, n int, less lessProduct) (float64, float64) {
	if r == 0 {
		return 1, 0
	}
	if 8*r == n {
		return half, half
	}
	t := quo(mul(round, float64(r)), float64(n))
	y := mul(t, t)
	p, q := quo(1, factorial(16)), quo(1, factorial(17))
	for k := 7; k >= 0; k-- {
		p = less(quo(1, factorial(2*k)), y, p)
		q = less(quo(1, factorial(2*k+1)), y, q)
	}
	return p, mul(t, q)
}

// noMinus is f; 0, if it is -0.
func noMinus(f float64) float64 {
	if f == 0 {
		return 0
	}
	return f
}

// wantTurn is the cosine and the sine of k/n of a turn by the chapter's words.
func wantTurn(n, k int) (float64, float64) {
	k %= n
	if k < 0 {
		k += n
	}
	q, r := 4*k/n, 4*k%n
	var c, s float64
	if 2*r <= n {
		c, s = wantEighth(r, 4*n, inTwoSteps)
	} else {
		s, c = wantEighth(n-r, 4*n, inTwoSteps)
	}
	cosines, sines := [4]float64{c, -s, -c, s}, [4]float64{s, c, -s, -c}
	return noMinus(cosines[q]), noMinus(sines[q])
}

func wantRoot(n, k int) complex128 {
	c, s := wantTurn(n, k)
	return complex(c, noMinus(-s))
}

func alike(x, y float64) bool {
	return math.Float64bits(x) == math.Float64bits(y) || x != x && y != y
}

func alikeParts(a, b complex128) bool {
	return alike(real(a), real(b)) && alike(imag(a), imag(b))
}

// place is a root that is asked for.
type place struct{ n, k int }

// lengths are short ones, those round powers of two, and greater ones by chance, up to the greatest.
func lengths() []int {
	out := []int{1000, 4095, 4097, 16383, 16385, 65537, maxTurn - 3, maxTurn - 2, maxTurn - 1, maxTurn}
	for n := 1; n <= 64; n++ {
		out = append(out, n)
	}
	for n := 128; n < maxTurn; n *= 2 {
		out = append(out, n, 3*n/4)
	}
	r := rand.New(rand.NewSource(1))
	for range 40 {
		out = append(out, 1+r.Intn(maxTurn))
	}
	return out
}

// places are roots of all lengths: those by the eighths of the turn and by its ends, of either sign, very great ones, and others by chance.
func places() []place {
	r := rand.New(rand.NewSource(2))
	var out []place
	for _, n := range lengths() {
		for eighth := -9; eighth <= 17; eighth++ {
			for off := -1; off <= 1; off++ {
				out = append(out, place{n, eighth*n/8 + off})
			}
		}
		for _, k := range []int{most, most - 1, least, least + 1, 1 << 32, -1 << 32, 1 << 62, most / n * n, least / n * n} {
			out = append(out, place{n, k})
		}
		for range 60 {
			out = append(out, place{n, r.Intn(n)}, place{n, int(r.Uint64())})
		}
	}
	return out
}

func mustRoot(t *testing.T, n, k int) complex128 {
	t.Helper()
	w, err := Root(n, k)
	if err != nil {
		t.Fatalf("Root(%d, %d): %v", n, k, err)
	}
	return w
}

func TestTermsAreRoundedQuotients(t *testing.T) {
	for k := range 9 {
		if got, want := cosineTerms()[k], quo(1, factorial(2*k)); got != want {
			t.Errorf("the cosine's term %d is %v, want %v", k, got, want)
		}
		if got, want := sineTerms()[k], quo(1, factorial(2*k+1)); got != want {
			t.Errorf("the sine's term %d is %v, want %v", k, got, want)
		}
	}
}

// The chapter's examples, and the document's.
func TestExamples(t *testing.T) {
	if math.Float64bits(half) != 0x3fe6a09e667f3bcd || math.Float64bits(round) != 0x401921fb54442d18 || MaxTurn != maxTurn {
		t.Fatal("the chapter's numbers")
	}
	for _, c := range []struct {
		n, k int
		want complex128
	}{
		{4, 0, 1}, {4, 1, complex(0, -1)}, {4, 2, -1}, {4, 3, complex(0, 1)},
		{8, 1, complex(half, -half)}, {8, 3, complex(-half, -half)}, {8, 5, complex(-half, half)}, {8, 7, complex(half, half)},
		{1, 5, 1}, {1, 0, 1}, {1, -7, 1}, {1, most, 1}, {1, least, 1}, {2, 1, -1}, {2, -1, -1}, {2, least, 1},
	} {
		if w := mustRoot(t, c.n, c.k); !alikeParts(w, c.want) {
			t.Errorf("Root(%d, %d) = %v, want %v", c.n, c.k, w, c.want)
		}
	}
	// The real part of the third root isn't -0.5 to the bit, but the float next to it.
	if w, v := mustRoot(t, 3, 1), mustRoot(t, 3, -1); w != complex(real(v), -imag(v)) || real(w) != math.Nextafter(-0.5, 0) {
		t.Errorf("Root(3, 1) and Root(3, -1): %v, %v", w, v)
	}
}

func TestEighth(t *testing.T) {
	check := func(r, n int) {
		t.Helper()
		c, s, err := Eighth(r, n)
		wantC, wantS := wantEighth(r, n, inTwoSteps)
		if err != nil || !alike(c, wantC) || !alike(s, wantS) {
			t.Fatalf("Eighth(%d, %d) = %v, %v, %v, want %v, %v", r, n, c, s, err, wantC, wantS)
		}
	}
	for n := 1; n <= 800; n++ {
		for r := 0; 8*r <= n; r++ {
			check(r, n)
		}
	}
	chance := rand.New(rand.NewSource(3))
	for range 20000 {
		n := 1 + chance.Intn(4*maxTurn)
		check(chance.Intn(n/8+1), n)
	}
	for n := 4*maxTurn - 20; n <= 4*maxTurn; n++ {
		for _, r := range []int{0, 1, 2, n/8 - 1, n / 8} {
			check(r, n)
		}
	}
}

func TestEighthRefuses(t *testing.T) {
	for _, c := range []struct {
		r, n int
		want error
	}{
		{0, 0, api.ErrLength}, {0, -1, api.ErrLength}, {0, -8, api.ErrLength}, {0, least, api.ErrLength}, {0, most, api.ErrLength},
		{0, 4*maxTurn + 1, api.ErrLength}, {1, 4*maxTurn + 8, api.ErrLength},
		{-1, 0, api.ErrLength}, {2, -8, api.ErrLength}, {-1, 4*maxTurn + 1, api.ErrLength}, {most, most, api.ErrLength}, // the length is told first
		{2, 8, api.ErrRange}, {1, 7, api.ErrRange}, {1, 1, api.ErrRange}, {2, 15, api.ErrRange}, {-1, 8, api.ErrRange}, {-1, 1, api.ErrRange},
		{maxTurn/2 + 1, 4 * maxTurn, api.ErrRange}, {maxTurn / 2, 4*maxTurn - 1, api.ErrRange},
		{1 << 61, 8, api.ErrRange}, {1<<61 + 1, 8, api.ErrRange}, {1 << 60, 8, api.ErrRange}, {-1 << 61, 8, api.ErrRange}, // 8r wraps round
		{most, 1, api.ErrRange}, {least, 1, api.ErrRange}, {least, 4 * maxTurn, api.ErrRange},
		{1, 8, nil}, {0, 1, nil}, {0, 7, nil}, {1, 9, nil}, {maxTurn / 2, 4 * maxTurn, nil}, {0, 4 * maxTurn, nil},
	} {
		x, y, err := Eighth(c.r, c.n)
		if err != c.want || err != nil && (!alike(x, 0) || !alike(y, 0)) {
			t.Errorf("Eighth(%d, %d) = %v, %v, %v, want %v", c.r, c.n, x, y, err, c.want)
		}
	}
}

// wrongLengths may not be asked of a whole turn.
func wrongLengths() []int {
	return []int{0, -1, -2, -4, least, least + 1, maxTurn + 1, maxTurn + 2, 2 * maxTurn, 4 * maxTurn, 1 << 32, 1 << 62, most}
}

func TestWrongLengthsAreRefused(t *testing.T) {
	for _, n := range wrongLengths() {
		for _, k := range []int{0, 1, -1, n, most, least} {
			if got, err := Cos(n, k); err != api.ErrLength || !alike(got, 0) {
				t.Errorf("Cos(%d, %d) = %v, %v", n, k, got, err)
			}
			if got, err := Sin(n, k); err != api.ErrLength || !alike(got, 0) {
				t.Errorf("Sin(%d, %d) = %v, %v", n, k, got, err)
			}
			if got, err := Root(n, k); err != api.ErrLength || !alikeParts(got, 0) {
				t.Errorf("Root(%d, %d) = %v, %v", n, k, got, err)
			}
			if got, err := Twist(complex(3, 4), n, k); err != api.ErrLength || !alikeParts(got, 0) {
				t.Errorf("Twist by %d, %d = %v, %v", n, k, got, err)
			}
		}
	}
}

func TestTurn(t *testing.T) {
	check := func(n, k int) {
		t.Helper()
		c, err := Cos(n, k)
		s, err2 := Sin(n, k)
		wantC, wantS := wantTurn(n, k)
		if err != nil || err2 != nil || !alike(c, wantC) || !alike(s, wantS) {
			t.Fatalf("Cos and Sin(%d, %d) = %v, %v, %v, %v, want %v, %v", n, k, c, s, err, err2, wantC, wantS)
		}
		if w := mustRoot(t, n, k); !alikeParts(w, wantRoot(n, k)) {
			t.Fatalf("Root(%d, %d) = %v, want %v", n, k, w, wantRoot(n, k))
		}
	}
	for n := 1; n <= 200; n++ {
		for k := -2 * n; k <= 2*n; k++ {
			check(n, k)
		}
	}
	for _, p := range places() {
		check(p.n, p.k)
	}
}

// Bits of roots and of eighths, reckoned by another program.
func TestKnownBits(t *testing.T) {
	for _, c := range []struct {
		n, k       int
		real, imag uint64
	}{
		{3, 1, 0xbfdfffffffffffff, 0xbfebb67ae8584cab},
		{3, 2, 0xbfdfffffffffffff, 0x3febb67ae8584cab},
		{5, 1, 0x3fd3c6ef372fe94f, 0xbfee6f0e134454ff},
		{5, 2, 0xbfe9e3779b97f4a8, 0xbfe2cf2304755a5e},
		{6, 1, 0x3fdfffffffffffff, 0xbfebb67ae8584cab},
		{7, 1, 0x3fe3f3a0e28bedd2, 0xbfe904c37505de4b},
		{7, 3, 0xbfecd4bca9cb5c71, 0xbfdbc4c04d71abc1},
		{8, 3, 0xbfe6a09e667f3bcd, 0xbfe6a09e667f3bcd},
		{9, 2, 0x3fc63a1a7e0b738a, 0xbfef838b8c811c17},
		{11, 5, 0xbfeeb42a9bcd5057, 0xbfd207e7fd768dbf},
		{12, 1, 0x3febb67ae8584cab, 0xbfdfffffffffffff},
		{13, 9, 0xbfd6b1d8b2365da1, 0x3fedeba72ef20147},
		{16, 1, 0x3fed906bcf328d46, 0xbfd87de2a6aea963},
		{16, 3, 0x3fd87de2a6aea963, 0xbfed906bcf328d46},
		{97, 40, 0xbfeb455c37568226, 0xbfe0bdf65e435abd},
		{1000, 1, 0x3fefffd69aa0b99d, 0xbf79bc5a9d91f679},
		{4096, 1, 0x3feffffd88586ee6, 0xbf5921faaee6472d},
		{4096, 511, 0x3fe6a97f692c82ea, 0xbfe697b9e686941c},
		{4096, 513, 0x3fe697b9e686941c, 0xbfe6a97f692c82ea},
		{4096, 3000, 0xbfbc3785c79ec2d4, 0x3fefce15fd6da67b},
		{65537, 12345, 0x3fd82b58a10cbd28, 0xbfeda1624f1e9d28},
		{4194304, 1, 0x3fefffffffffd886, 0xbeb921fb544422c2},
		{4194303, -1, 0x3fefffffffffd886, 0x3eb921fbb8cc11a5},
		{4194303, 1048575, 0x3eb2d97cca9910a0, 0xbfefffffffffe9cb},
		{4194303, 1048576, 0xbe9921fbb8cc1b55, 0xbfeffffffffffd88},
		{4194301, most, 0x3fe6a0991fdb730e, 0xbfe6a0a3ad21c9a0},
		{4194301, least, 0x3fe6a096e72a5485, 0x3fe6a0a5e5d1a720},
	} {
		w := mustRoot(t, c.n, c.k)
		if math.Float64bits(real(w)) != c.real || math.Float64bits(imag(w)) != c.imag {
			t.Errorf("Root(%d, %d) = %x, %x", c.n, c.k, math.Float64bits(real(w)), math.Float64bits(imag(w)))
		}
	}
	for _, c := range []struct {
		r, n      int
		cos, sine uint64
	}{
		{1, 9, 0x3fe8836fa2cf503a, 0x3fe491b7523c161c},
		{1, 16, 0x3fed906bcf328d46, 0x3fd87de2a6aea963},
		{1, 16777216, 0x3feffffffffffd88, 0x3e9921fb54442c72},
		{2097151, 16777216, 0x3fe6a09ef4ab52e5, 0x3fe6a09dd8532137},
		{2097151, 16777215, 0x3fe6a09ee2e5d0b0, 0x3fe6a09dea18a43e},
		{1, 10, 0x3fe9e3779b97f4a8, 0x3fe2cf2304755a5e},
		{3, 25, 0x3fe753b603d2b816, 0x3fe5e7cf55112013},
		{12345, 16777213, 0x3fefffe99640c55a, 0x3f72efda900512e4},
	} {
		x, y, err := Eighth(c.r, c.n)
		if err != nil || math.Float64bits(x) != c.cos || math.Float64bits(y) != c.sine {
			t.Errorf("Eighth(%d, %d) = %x, %x, %v", c.r, c.n, math.Float64bits(x), math.Float64bits(y), err)
		}
	}
}

// sumOf is FNV-1a of the bits of a list, the lowest bytes first.
func sumOf(list []complex128) uint64 {
	sum := fnv.New64a()
	var b [8]byte
	for _, w := range list {
		for _, f := range []float64{real(w), imag(w)} {
			for i := range b {
				b[i] = byte(math.Float64bits(f) >> (8 * i))
			}
			sum.Write(b[:])
		}
	}
	return sum.Sum64()
}

// The sums of all roots of some lengths, reckoned by another program.
func TestKnownLists(t *testing.T) {
	for _, c := range []struct {
		n   int
		sum uint64
	}{
		{1, 0x2f125cea1c5d04b8}, {2, 0x078eeb3b43a0afe5}, {3, 0x4484bf0a8a2ee8a4}, {5, 0x26839e7879006ef0}, {7, 0xbfdd18b12dd65f10},
		{12, 0x59e0cc9839e088f5}, {97, 0x1768ba56203325d4}, {360, 0xde057e01a2cc22f5}, {1000, 0x49b5c05e58fafb25}, {1021, 0x9d197b58f9c46d58},
		{4096, 0xda95d1726b2d5675}, {6561, 0x172dd5116001529c}, {16383, 0x62fadb829389a96c}, {16384, 0xfd67770695f6d635},
	} {
		if list, err := All(c.n); err != nil || sumOf(list) != c.sum {
			t.Errorf("All(%d): the sum %x, %v", c.n, sumOf(list), err)
		}
	}
}

// If each product and the difference behind it were one rounding, some of the roots that are held against the oracle would come out otherwise.
func TestSamplesTellFusedSeries(t *testing.T) {
	cosines, sines := 0, 0
	for n := 1; n <= 800; n++ {
		for r := 0; 8*r <= n; r++ {
			c, s := wantEighth(r, n, inTwoSteps)
			fusedC, fusedS := wantEighth(r, n, inOneStep)
			if c != fusedC {
				cosines++
			}
			if s != fusedS {
				sines++
			}
		}
	}
	if cosines < 100 || sines < 100 {
		t.Errorf("cosines told apart: %d, sines: %d", cosines, sines)
	}
}

func TestAll(t *testing.T) {
	for _, n := range []int{1, 2, 3, 4, 5, 6, 7, 8, 9, 12, 100, 1023, 4096, api.MaxInner - 1, api.MaxInner} {
		list, err := All(n)
		if err != nil || len(list) != n {
			t.Fatalf("All(%d): %d roots, %v", n, len(list), err)
		}
		for k, w := range list {
			if !alikeParts(w, mustRoot(t, n, k)) {
				t.Fatalf("All(%d): the root %d is %v", n, k, w)
			}
		}
	}
	for _, n := range append(wrongLengths(), api.MaxInner+1, maxTurn) {
		if list, err := All(n); err != api.ErrLength || len(list) != 0 {
			t.Errorf("All(%d): %d roots, %v", n, len(list), err)
		}
	}
}

func TestAllIsNewMemory(t *testing.T) {
	for _, n := range []int{1, 5, 8, 1000} {
		first, _ := All(n)
		want := sumOf(first)
		again, _ := All(n)
		clear(first[:cap(first)])
		third, _ := All(n)
		if sumOf(again) != want || sumOf(third) != want {
			t.Errorf("All(%d) shares memory with an earlier answer", n)
		}
	}
}

// twisted are numbers of every kind of float.
func twisted() []complex128 {
	var out []complex128
	floats := []float64{0, minusZero, 1, -1, 0.3, 3, -1e-300, 0x1p-1074, math.MaxFloat64, inf, -inf, nan}
	for _, x := range floats {
		for _, y := range floats {
			out = append(out, complex(x, y))
		}
	}
	return out
}

func TestTwist(t *testing.T) {
	for _, p := range []place{{1, 0}, {1, 3}, {1, least}, {2, 1}, {2, 4}, {3, 1}, {3, -1}, {3, 6}, {4, 1}, {4, 2}, {4, 3}, {4, -4}, {5, -10}, {5, 7}, {8, 1}, {8, 3}, {97, 96}, {4096, 4096}, {4096, 4097}, {maxTurn, 1}, {maxTurn, -maxTurn}, {maxTurn, most}, {maxTurn, least}, {maxTurn - 1, maxTurn - 1}} {
		for _, a := range twisted() {
			want := a
			if p.k%p.n != 0 {
				want = cplx.Mul(a, wantRoot(p.n, p.k))
			}
			if got, err := Twist(a, p.n, p.k); err != nil || !alikeParts(got, want) {
				t.Fatalf("Twist(%v, %d, %d) = %v, %v, want %v", a, p.n, p.k, got, err, want)
			}
		}
	}
}

// By the root 0 nothing is multiplied; by every other one something is, be it a quarter turn.
func TestTwistByHand(t *testing.T) {
	for _, c := range []struct {
		a    complex128
		n, k int
		want complex128
	}{
		{complex(inf, 2), 5, -10, complex(inf, 2)},
		{complex(nan, minusZero), 1, 1, complex(nan, minusZero)},
		{complex(minusZero, minusZero), 3, 0, complex(minusZero, minusZero)},
		{complex(3, 4), 4, 1, complex(4, -3)},
		{complex(3, 4), 4, 2, complex(-3, -4)},
		{complex(3, 4), 2, 1, complex(-3, -4)},
		{complex(3, 4), 4, 3, complex(-4, 3)},
		{complex(inf, 0), 4, 1, complex(nan, -inf)},
		{complex(inf, 0), 2, 1, complex(-inf, nan)},
		{complex(0, 0), 2, 1, complex(minusZero, 0)},
		{complex(2, 0), 8, 1, complex(2*half, -2*half)},
	} {
		if got, err := Twist(c.a, c.n, c.k); err != nil || !alikeParts(got, c.want) {
			t.Errorf("Twist(%v, %d, %d) = %v, %v, want %v", c.a, c.n, c.k, got, err, c.want)
		}
	}
}
