package primes

import (
	"math"
	"math/big"
	"math/rand"
	"slices"
	"testing"

	"timbre/api"
)

// divisors are what divides n, by trying every number up to it.
func divisors(n int) []int {
	var out []int
	for d := 1; d <= n; d++ {
		if n%d == 0 {
			out = append(out, d)
		}
	}
	return out
}

// greatOnes are numbers about 2^32, squares and products of great primes, and any, all within 2^32.
func greatOnes() []int {
	list := []int{4294967291, 4294967279, 65521 * 65521, 65521 * 65519, 65537 * 65521, 65537, 65537 * 2, 3 * 1431655763, 1 << 31, 1<<31 - 1, 3486784401, 2 * 3 * 5 * 7 * 11 * 13 * 17 * 19 * 23, 998244353, 1 << 16, 1<<16 - 1, 65535 * 65535, 65536 * 65535, 3037000500}
	for n := 1<<32 - 40; n <= 1<<32; n++ {
		list = append(list, n)
	}
	r := rand.New(rand.NewSource(5))
	for range 300 {
		list = append(list, 2+int(r.Uint32()>>r.Intn(30)))
	}
	return list
}

// outside are numbers of which no divisors are told.
var outside = []int{0, -1, -2, -8, -97, math.MinInt, math.MinInt + 1, 1<<32 + 1, 1<<32 + 2, 1<<32 + 15, 1 << 33, 1<<62 + 1, math.MaxInt, 1<<61 - 1}

func isPrime(n int) bool { return n > 1 && big.NewInt(int64(n)).ProbablyPrime(20) }

func checkFactors(t *testing.T, n int) {
	t.Helper()
	factors := Factors(n)
	product := 1
	for _, p := range factors {
		product *= p
		if !isPrime(p) {
			t.Errorf("Factors(%d): %d is no prime", n, p)
		}
	}
	if n >= 2 && product != n || n == 1 && len(factors) != 0 {
		t.Errorf("Factors(%d) is %v", n, factors)
	}
	if !slices.IsSorted(factors) {
		t.Errorf("Factors(%d) falls: %v", n, factors)
	}
	if Prime(n) != isPrime(n) || Prime(n) != (len(factors) == 1) {
		t.Errorf("Prime(%d) is %v", n, Prime(n))
	}
}

func TestFactorsArePrimesAndTheirProduct(t *testing.T) {
	for n := 1; n <= 20000; n++ {
		checkFactors(t, n)
	}
	for _, n := range greatOnes() {
		checkFactors(t, n)
	}
	if got := Factors(360); !slices.Equal(got, []int{2, 2, 2, 3, 3, 5}) {
		t.Error("Factors(360) is", got)
	}
	if got := Factors(1 << 32); !slices.Equal(got, slices.Repeat([]int{2}, 32)) {
		t.Error("Factors(2^32) is", got)
	}
	if !Prime(4294967291) {
		t.Error("4294967291 is a prime")
	}
}

func TestNothingIsToldOutside(t *testing.T) {
	for _, n := range outside {
		if got := Factors(n); len(got) != 0 {
			t.Errorf("Factors(%d) is %v", n, got)
		}
		if Prime(n) {
			t.Errorf("Prime(%d)", n)
		}
		for d := range Divisors(n) {
			t.Errorf("Divisors(%d) tells %d", n, d)
			break
		}
		if g, err := Root(n); g != 0 || err != api.ErrRoot {
			t.Errorf("Root(%d) is %d, %v", n, g, err)
		}
	}
	if Prime(0) || Prime(1) {
		t.Error("0 or 1 is called a prime")
	}
}

func TestFactorsAreNewMemory(t *testing.T) {
	first := Factors(360)
	clear(first[:cap(first)])
	if got := Factors(360); !slices.Equal(got, []int{2, 2, 2, 3, 3, 5}) {
		t.Error("Factors(360) is", got, "behind a write into the answer")
	}
}

func TestDivisorsOfSmallNumbers(t *testing.T) {
	for n := 1; n <= 3000; n++ {
		if got, want := slices.Collect(Divisors(n)), divisors(n); !slices.Equal(got, want) {
			t.Fatalf("Divisors(%d) is %v, want %v", n, got, want)
		}
	}
}

// divisorsByFactors are the divisors made of the prime factors that math/big calls primes.
func divisorsByFactors(n int) []int {
	out := []int{1}
	for p := 2; n > 1; p++ {
		if p*p > n {
			p = n
		}
		had := len(out)
		for power := p; n%p == 0; power *= p {
			for _, d := range out[:had] {
				out = append(out, d*power)
			}
			n /= p
		}
	}
	slices.Sort(out)
	return out
}

func TestDivisorsOfGreatNumbers(t *testing.T) {
	for _, n := range greatOnes() {
		if got, want := slices.Collect(Divisors(n)), divisorsByFactors(n); !slices.Equal(got, want) {
			t.Fatalf("Divisors(%d) is %v, want %v", n, got, want)
		}
	}
}

func TestDivisorsMayBeStoppedAndGoneOverAgain(t *testing.T) {
	for _, n := range []int{1, 12, 16, 49, 360, 4294967291, 1 << 32} {
		seq, want := Divisors(n), divisorsByFactors(n)
		for stop := 1; stop <= len(want); stop++ {
			var got []int
			for d := range seq {
				if got = append(got, d); len(got) == stop {
					break
				}
			}
			if !slices.Equal(got, want[:stop]) {
				t.Fatalf("Divisors(%d) stopped behind %d is %v", n, stop, got)
			}
		}
		if got := slices.Collect(seq); !slices.Equal(got, want) {
			t.Fatalf("Divisors(%d) gone over again is %v", n, got)
		}
	}
}

func TestGcd(t *testing.T) {
	list := []int{0, 1, -1, 2, -2, 3, 5, -5, 7, 12, -12, 18, 360, 1 << 32, 1 << 62, -1 << 62, 3 << 61, math.MaxInt, -math.MaxInt, math.MinInt, math.MinInt + 2}
	r := rand.New(rand.NewSource(6))
	for range 100 {
		list = append(list, int(r.Uint64())>>r.Intn(64))
	}
	for _, a := range list {
		for _, b := range list {
			bigA, bigB := big.NewInt(int64(a)), big.NewInt(int64(b))
			want := new(big.Int).GCD(nil, nil, bigA.Abs(bigA), bigB.Abs(bigB))
			got := Gcd(a, b)
			if uint64(got) != want.Uint64() {
				t.Fatalf("Gcd(%d, %d) is %d, want %v", a, b, got, want)
			}
			if b != 0 && got != Gcd(b, a%b) {
				t.Fatalf("Gcd(%d, %d) isn't that of %d and %d", a, b, b, a%b)
			}
		}
	}
	if Gcd(0, math.MinInt) != math.MinInt || Gcd(math.MinInt, math.MinInt) != math.MinInt {
		t.Error("2^63 isn't answered as -2^63")
	}
}

// leastRoot is the primitive root by its definition: going over all powers.
func leastRoot(p int) int {
	for g := 1; ; g++ {
		seen := make([]bool, p)
		count, power := 0, 1%p
		for range p - 1 {
			if !seen[power] {
				seen[power] = true
				count++
			}
			power = power * g % p
		}
		if count == p-1 {
			return g
		}
	}
}

func TestRootOfSmallPrimes(t *testing.T) {
	for p := range 2500 {
		g, err := Root(p)
		if !isPrime(p) {
			if g != 0 || err != api.ErrRoot {
				t.Errorf("Root(%d) is %d, %v", p, g, err)
			}
			continue
		}
		if want := leastRoot(p); g != want || err != nil {
			t.Errorf("Root(%d) is %d, %v, want %d", p, g, err, want)
		}
	}
}

func power(a, e, m int) int {
	return int(new(big.Int).Exp(big.NewInt(int64(a)), big.NewInt(int64(e)), big.NewInt(int64(m))).Int64())
}

func TestRootOfGreatPrimes(t *testing.T) {
	primes := []int{998244353, 167772161, 469762049, 2013265921, 4294967291, 4294967279, 110881, 760321, 5109721, 17551561, 29418841, 33358081, 45024841, 90441961, 184254841, 324013369, 831143041, 1685283601}
	r := rand.New(rand.NewSource(7))
	for range 200 {
		primes = append(primes, int(r.Uint32()))
	}
	for _, p := range primes {
		g, err := Root(p)
		if !isPrime(p) {
			if g != 0 || err != api.ErrRoot {
				t.Errorf("Root(%d) is %d, %v", p, g, err)
			}
			continue
		}
		if err != nil || g < 1 || g >= p {
			t.Fatalf("Root(%d) is %d, %v", p, g, err)
		}
		for less := 1; less <= g; less++ {
			misses := false
			for _, q := range divisorsByFactors(p - 1)[1:] {
				misses = misses || isPrime(q) && power(less, (p-1)/q, p) == 1
			}
			if misses == (less == g) {
				t.Errorf("Root(%d) is %d: %d", p, g, less)
			}
		}
	}
}

// smoothNumbers[n] tells whether n has no prime factor above most.
func smoothNumbers(most, upto int) []bool {
	out := make([]bool, upto+1)
	out[1] = true
	for n := 1; n <= upto; n++ {
		for p := 2; out[n] && p <= most && n*p <= upto; p++ {
			if isPrime(p) {
				out[n*p] = true
			}
		}
	}
	return out
}

func checkSmooth(t *testing.T, n, most, want int) {
	t.Helper()
	if got, err := Smooth(n, most); got != want || err != nil {
		t.Errorf("Smooth(%d, %d) is %d, %v, want %d", n, most, got, err, want)
	}
}

func TestSmoothOfSmallNumbers(t *testing.T) {
	for most := 2; most <= 40; most++ {
		good := smoothNumbers(most, 2048)
		for n := 1; n <= 1024; n++ {
			checkSmooth(t, n, most, n+slices.Index(good[n:], true))
		}
	}
}

func TestSmoothOfGreatNumbers(t *testing.T) {
	for _, most := range []int{2, 3, 4, 5, 6, 7, 13} {
		good := smoothNumbers(most, 1<<21)
		starts := []int{1<<20 - 1, 1 << 20, 1<<19 + 1, 1<<19 - 1, 531441, 531442, 1048575, 1000003}
		r := rand.New(rand.NewSource(8))
		for range 20 {
			starts = append(starts, 1+r.Intn(1<<20))
		}
		for _, n := range starts {
			checkSmooth(t, n, most, n+slices.Index(good[n:], true))
		}
	}
	for _, c := range [][3]int{{97, 97, 97}, {97, 5, 100}, {1, 2, 1}, {1025, 2, 2048}, {1048573, math.MaxInt, 1048573}, {1048573, 1048572, 1048574}} {
		checkSmooth(t, c[0], c[1], c[2])
	}
}

func TestSmoothWithGreatFactors(t *testing.T) {
	// 1048573 is the greatest prime below 2^20; the others have two great factors.
	for _, n := range []int{1048573, 1013 * 1019, 1021 * 1021, 1 << 20, 999983} {
		for _, most := range []int{500, 1012, 1013, 1018, 1019, 1020, 1021, 1022, 524286, 524287, 999982, 999983, 1048572, 1048573, 1 << 21} {
			want := n
			for slices.ContainsFunc(divisorsByFactors(want), func(d int) bool { return d > most && isPrime(d) }) {
				want++
			}
			checkSmooth(t, n, most, want)
		}
	}
}

func TestSmoothRefuses(t *testing.T) {
	for _, c := range [][2]int{{0, 5}, {-1, 5}, {math.MinInt, 5}, {1<<20 + 1, 5}, {math.MaxInt, math.MaxInt}, {5, 1}, {5, 0}, {5, -7}, {1, 1}, {1, math.MinInt}, {0, 0}} {
		if got, err := Smooth(c[0], c[1]); got != 0 || err != api.ErrRange {
			t.Errorf("Smooth(%d, %d) is %d, %v", c[0], c[1], got, err)
		}
	}
}
