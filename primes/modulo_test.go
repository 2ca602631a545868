package primes

import (
	"math"
	"math/big"
	"math/rand"
	"testing"

	"timbre/api"
)

const top = math.MaxUint64

func whole(n uint64) *big.Int { return new(big.Int).SetUint64(n) }

// words are numbers of all sizes, the edges of uint64 among them.
func words() []uint64 {
	list := []uint64{0, 1, 2, 3, 4, 5, 6, 7, 10, 12, 13, 97, 1<<32 - 1, 1 << 32, 1<<32 + 1, 998244353, 1<<63 - 1, 1 << 63, 1<<63 + 1, 1<<61 - 1, top - 58, top - 1, top}
	r := rand.New(rand.NewSource(9))
	for range 20 {
		list = append(list, r.Uint64()>>r.Intn(64))
	}
	return list
}

func TestMul(t *testing.T) {
	for _, a := range words() {
		for _, b := range words() {
			product := new(big.Int).Mul(whole(a), whole(b))
			for _, m := range words() {
				want := new(big.Int)
				if m != 0 {
					want.Mod(product, whole(m))
				}
				if got := Mul(a, b, m); got != want.Uint64() {
					t.Fatalf("Mul(%d, %d, %d) is %d, want %v", a, b, m, got, want)
				}
			}
		}
	}
}

func TestPow(t *testing.T) {
	for _, a := range words() {
		for _, m := range words() {
			for _, e := range words() {
				var want uint64
				if m != 0 {
					want = new(big.Int).Exp(whole(a), whole(e), whole(m)).Uint64()
				}
				if m == 1 {
					want = 0
				}
				if got := Pow(a, e, m); got != want {
					t.Fatalf("Pow(%d, %d, %d) is %d, want %d", a, e, m, got, want)
				}
			}
		}
	}
}

func TestPowersMultiply(t *testing.T) {
	r := rand.New(rand.NewSource(10))
	for range 2000 {
		a, e, f, m := r.Uint64()>>r.Intn(64), r.Uint64()>>(1+r.Intn(63)), r.Uint64()>>(1+r.Intn(63)), r.Uint64()>>r.Intn(64)
		if got, want := Pow(a, e+f, m), Mul(Pow(a, e, m), Pow(a, f, m), m); got != want {
			t.Fatalf("Pow(%d, %d + %d, %d) is %d, want %d", a, e, f, m, got, want)
		}
	}
}

func TestPowersOfPrimes(t *testing.T) {
	for p := range uint64(300) {
		for a := uint64(1); a < p && Prime(int(p)); a++ {
			if Pow(a, p-1, p) != 1 {
				t.Errorf("Pow(%d, %d, %d) isn't 1", a, p-1, p)
			}
		}
	}
}

func checkInverse(t *testing.T, a, m uint64) {
	t.Helper()
	got, err := Inverse(a, m)
	var divisor *big.Int
	if m != 0 {
		divisor = new(big.Int).GCD(nil, nil, whole(a), whole(m))
	}
	if m == 0 || !divisor.IsUint64() || divisor.Uint64() != 1 {
		if got != 0 || err != api.ErrRoot {
			t.Fatalf("Inverse(%d, %d) is %d, %v", a, m, got, err)
		}
		return
	}
	product := new(big.Int).Mul(whole(a), whole(got))
	if err != nil || got >= m || product.Mod(product, whole(m)).Uint64() != 1%m {
		t.Fatalf("Inverse(%d, %d) is %d, %v", a, m, got, err)
	}
}

func TestInverse(t *testing.T) {
	for m := range uint64(80) {
		for a := range uint64(200) {
			checkInverse(t, a, m)
		}
	}
	for _, a := range words() {
		for _, m := range words() {
			checkInverse(t, a, m)
		}
	}
	r := rand.New(rand.NewSource(11))
	for range 5000 {
		checkInverse(t, r.Uint64()>>r.Intn(64), r.Uint64()>>r.Intn(64))
	}
}

func checkJoin(t *testing.T, a, m, b, n uint64) {
	t.Helper()
	var want error
	product := new(big.Int).Mul(whole(m), whole(n))
	switch {
	case m == 0 || n == 0 || !product.IsUint64():
		want = api.ErrRange
	case new(big.Int).GCD(nil, nil, whole(m), whole(n)).Cmp(big.NewInt(1)) != 0:
		want = api.ErrRoot
	}
	got, err := Join(a, m, b, n)
	if err != want || err != nil && got != 0 {
		t.Fatalf("Join(%d, %d, %d, %d) is %d, %v, want %v", a, m, b, n, got, err, want)
	}
	if err == nil && (got >= m*n || got%m != a%m || got%n != b%n) {
		t.Fatalf("Join(%d, %d, %d, %d) is %d", a, m, b, n, got)
	}
	if turned, fault := Join(b, n, a, m); turned != got || fault != err {
		t.Fatalf("Join(%d, %d, %d, %d) is %d, %v; with the pairs exchanged %d, %v", a, m, b, n, got, err, turned, fault)
	}
}

func TestJoinOfSmallNumbers(t *testing.T) {
	for m := range uint64(14) {
		for n := range uint64(14) {
			for a := range uint64(16) {
				for b := range uint64(16) {
					checkJoin(t, a, m, b, n)
				}
			}
		}
	}
}

func TestJoinOfGreatNumbers(t *testing.T) {
	// 2^64 - 1 is the greatest product that may be: 3, 5, 17, 257, 641, 65537 and 6700417 are its factors.
	pairs := [][2]uint64{{1<<32 - 1, 1<<32 + 1}, {1 << 32, 1 << 32}, {1 << 32, 1<<32 - 1}, {top, 1}, {top - 1, 1}, {top, 2}, {3, top / 3}, {641, top / 641}, {6700417, top / 6700417}, {1 << 63, 1}, {1 << 63, 2}, {1<<63 - 1, 2}, {1<<63 + 1, 2}, {0, 0}, {0, top}, {top, top}, {998244353, 469762049}}
	r := rand.New(rand.NewSource(12))
	for range 300 {
		shift := r.Intn(64)
		pairs = append(pairs, [2]uint64{r.Uint64() >> shift, r.Uint64() >> max(0, 63-shift)})
	}
	rests := []uint64{0, 1, 2, top, top - 1, 1 << 63, r.Uint64(), r.Uint64(), r.Uint64()}
	for _, p := range pairs {
		for _, a := range rests {
			for _, b := range rests {
				checkJoin(t, a, p[0], b, p[1])
			}
		}
	}
}

func TestModuloExamples(t *testing.T) {
	for _, c := range []struct {
		name      string
		got, want uint64
	}{
		{"Mul(2^64 - 1, 2^64 - 1, 10)", Mul(top, top, 10), 5},
		{"Pow(3, 200, 13)", Pow(3, 200, 13), 9},
		{"Pow(0, 0, 7)", Pow(0, 0, 7), 1},
		{"Pow(5, 0, 1)", Pow(5, 0, 1), 0},
		{"Pow(5, 3, 0)", Pow(5, 3, 0), 0},
		{"Pow(5, 0, 0)", Pow(5, 0, 0), 0},
	} {
		if c.got != c.want {
			t.Errorf("%s is %d, want %d", c.name, c.got, c.want)
		}
	}
	for _, c := range []struct {
		a, m, want uint64
		err        error
	}{{3, 7, 5, nil}, {2, 4, 0, api.ErrRoot}, {0, 5, 0, api.ErrRoot}, {0, 1, 0, nil}, {9, 1, 0, nil}, {0, 0, 0, api.ErrRoot}, {1, 0, 0, api.ErrRoot}, {5, 5, 0, api.ErrRoot}} {
		if got, err := Inverse(c.a, c.m); got != c.want || err != c.err {
			t.Errorf("Inverse(%d, %d) is %d, %v", c.a, c.m, got, err)
		}
	}
	for _, c := range []struct {
		a, m, b, n, want uint64
		err              error
	}{{2, 3, 3, 5, 8, nil}, {1, 2, 1, 4, 0, api.ErrRoot}, {5, 1, 9, 4, 1, nil}, {0, 1 << 33, 0, 1 << 33, 0, api.ErrRange}, {7, 1, 7, 1, 0, nil}} {
		if got, err := Join(c.a, c.m, c.b, c.n); got != c.want || err != c.err {
			t.Errorf("Join(%d, %d, %d, %d) is %d, %v", c.a, c.m, c.b, c.n, got, err)
		}
	}
}
