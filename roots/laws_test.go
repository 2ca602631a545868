package roots

import (
	"math"
	"math/big"
	"testing"

	"timbre/cplx"
)

// canAdd tells whether k + n is an int.
func canAdd(k, n int) bool { return k <= most-n }

// P7.2: w(n, k) hangs on k/n alone.
func TestRootsHangOnTheQuotient(t *testing.T) {
	for _, p := range places() {
		w := mustRoot(t, p.n, p.k)
		k := (p.k%p.n + p.n) % p.n
		for m := 1; m*p.n <= maxTurn; m *= 2 {
			for _, of := range []int{k, k - p.n} {
				if v := mustRoot(t, m*p.n, m*of); !alikeParts(v, w) {
					t.Fatalf("Root(%d, %d) = %v, Root(%d, %d) = %v", p.n, p.k, w, m*p.n, m*of, v)
				}
			}
		}
		if canAdd(p.k, p.n) && !alikeParts(mustRoot(t, p.n, p.k+p.n), w) {
			t.Fatalf("Root(%d, %d) and the one a turn behind it", p.n, p.k)
		}
	}
}

// equalAndAlike tells whether two roots are equal, and alike where no part is 0.
func equalAndAlike(a, b complex128) bool {
	return a == b && (real(a) == 0 || imag(a) == 0 || alikeParts(a, b))
}

// P7.3: the turned ones.
func TestRootsTurned(t *testing.T) {
	for _, p := range places() {
		w := mustRoot(t, p.n, p.k)
		if p.k != least {
			if v := mustRoot(t, p.n, -p.k); !equalAndAlike(v, cplx.Conj(w)) {
				t.Fatalf("Root(%d, %d) = %v, and of minus that %v", p.n, p.k, w, v)
			}
		}
		if !canAdd(p.k, p.n) {
			continue
		}
		if p.n%4 == 0 {
			if v := mustRoot(t, p.n, p.k+p.n/4); !equalAndAlike(v, cplx.MinusI(w)) {
				t.Fatalf("Root(%d, %d) = %v, and a quarter behind it %v", p.n, p.k, w, v)
			}
		}
		if p.n%2 == 0 {
			if v := mustRoot(t, p.n, p.k+p.n/2); !equalAndAlike(v, cplx.Neg(w)) {
				t.Fatalf("Root(%d, %d) = %v, and half a turn behind it %v", p.n, p.k, w, v)
			}
		}
	}
}

// P7.4: the exact places, their noughts without a sign.
func TestExactPlaces(t *testing.T) {
	check := func(n, eighth int, want complex128) {
		if n*eighth%8 != 0 {
			return
		}
		for _, k := range []int{n * eighth / 8, n*eighth/8 - n, n*eighth/8 + 5*n} {
			if w := mustRoot(t, n, k); !alikeParts(w, want) {
				t.Fatalf("Root(%d, %d) = %v, want %v", n, k, w, want)
			}
		}
	}
	all := lengths()
	for n := 65; n <= 3000; n++ {
		all = append(all, n)
	}
	for _, n := range all {
		for eighth, want := range []complex128{
			1, complex(half, -half), complex(0, -1), complex(-half, -half), -1, complex(-half, half), complex(0, 1), complex(half, half),
		} {
			check(n, eighth, want)
		}
	}
}

// No part is -0, and no root but those of the quarters has a nought.
func TestNoughtsOfRoots(t *testing.T) {
	check := func(n, k int, f float64) {
		if f == 0 && (math.Signbit(f) || 4*(k%n)%n != 0) {
			t.Fatalf("%d of %d has the part %v", k, n, f)
		}
	}
	for _, p := range places() {
		w := mustRoot(t, p.n, p.k)
		c, _ := Cos(p.n, p.k)
		s, _ := Sin(p.n, p.k)
		for _, f := range []float64{real(w), imag(w), c, s} {
			check(p.n, p.k, f)
		}
	}
}

// onCircle tells whether the sum of the squares of the parts, nothing rounded, differs from 1 by less than 2^-48: a square has 106 digits, and the least part is above 2^-30.
func onCircle(w complex128) bool {
	exact := func() *big.Float { return new(big.Float).SetPrec(400) }
	x, y := exact().SetFloat64(real(w)), exact().SetFloat64(imag(w))
	off := exact().Add(x.Mul(x, x), y.Mul(y, y))
	off.Sub(off, big.NewFloat(1))
	return off.Abs(off).Cmp(big.NewFloat(0x1p-48)) < 0
}

// P7.5: on the circle.
func TestRootsAreOnTheCircle(t *testing.T) {
	check := func(n, k int) {
		w := mustRoot(t, n, k)
		if math.Abs(real(w)) > 1 || math.Abs(imag(w)) > 1 || !onCircle(w) {
			t.Fatalf("Root(%d, %d) = %v", n, k, w)
		}
	}
	for n := 1; n <= 300; n++ {
		for k := range n {
			check(n, k)
		}
	}
	for _, p := range places() {
		check(p.n, p.k)
	}
	if onCircle(complex(1+0x1p-49, 0)) || onCircle(complex(0, 1-0x1p-48)) || onCircle(complex(half, half+0x1p-47)) || !onCircle(complex(0, 1+0x1p-50)) {
		t.Error("the test's own measure")
	}
}

// Roots lie where their name says: the laws above would hold for other points of the circle too.
func TestRootsAreNear(t *testing.T) {
	for _, p := range places() {
		k := (p.k%p.n + p.n) % p.n
		s, c := math.Sincos(2 * math.Pi * float64(k) / float64(p.n))
		if w := mustRoot(t, p.n, p.k); math.Abs(real(w)-c) > 4e-15 || math.Abs(imag(w)+s) > 4e-15 {
			t.Fatalf("Root(%d, %d) = %v", p.n, p.k, w)
		}
	}
}
