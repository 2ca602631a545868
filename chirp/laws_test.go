package chirp

import (
	"math"
	"math/rand"
	"slices"
	"testing"

	"timbre/cplx"
	"timbre/direct"
)

// P13.2.
func TestChirpsComeBack(t *testing.T) {
	r := rand.New(rand.NewSource(7))
	for _, n := range lengths() {
		if c := mustAt(t, n, 0); !alikeParts(c, 1) {
			t.Fatalf("the chirp 0 of %d is %v", n, c)
		}
		for _, j := range numbers(r, n) {
			c := mustAt(t, n, j)
			if j != least && !alikeParts(mustAt(t, n, -j), c) {
				t.Fatalf("the chirps %d and %d of %d differ", j, -j, n)
			}
			if j <= most-2*n && !alikeParts(mustAt(t, n, j+2*n), c) {
				t.Fatalf("the chirps %d and %d of %d differ", j, j+2*n, n)
			}
		}
	}
}

// P13.3.
func TestOtherReadFromItsEnd(t *testing.T) {
	check := func(n, m int) {
		t.Helper()
		list := mustOther(t, n, m)
		noughts := 0
		for j, c := range list {
			if alikeParts(c, 0) {
				noughts++
			}
			if j > 0 && !alikeParts(c, list[m-j]) {
				t.Fatalf("Other(%d, %d): the elements %d and %d are %v and %v", n, m, j, m-j, c, list[m-j])
			}
		}
		if len(list) != m || noughts != m-(2*n-1) {
			t.Fatalf("Other(%d, %d): %d elements, %d noughts", n, m, len(list), noughts)
		}
	}
	for n := 1; n <= 40; n++ {
		for m := 2*n - 1; m <= 90; m++ {
			check(n, m)
		}
	}
	r := rand.New(rand.NewSource(8))
	for _, n := range lengths() {
		if least := 2*n - 1; least <= maxInner {
			check(n, least)
			check(n, maxInner)
			check(n, least+r.Intn(maxInner-least+1))
		}
	}
}

// P13.4: a zoom of all is layer 10's transform.
func TestZoomOfAllIsForward(t *testing.T) {
	r := rand.New(rand.NewSource(9))
	check := func(x []complex128) {
		t.Helper()
		n := len(x)
		want, err := direct.Forward(x)
		if err != nil {
			t.Fatal(err)
		}
		if got := mustZoom(t, x, n, 0, n); !alikeLists(got, want) {
			t.Fatalf("Zoom of all of %v is %v, Forward %v", x, got, want)
		}
	}
	for _, kind := range kinds() {
		for n := 1; n <= 40; n++ {
			check(byChance(r, n, kind))
		}
		check(byChance(r, 97, kind))
		check(byChance(r, 360, kind))
	}
	check(byChance(r, 1023, kinds()[1]))
	check(byChance(r, 1024, kinds()[1]))
}

// P13.4: a zoom cut anywhere is the two zooms, joined.
func TestZoomCut(t *testing.T) {
	r := rand.New(rand.NewSource(10))
	for _, kind := range kinds() {
		for _, m := range turns(r) {
			x := byChance(r, 1+r.Intn(7), kind)
			count := r.Intn(12)
			for _, from := range starts(r, m) {
				if from > most-count { // the second zoom's place is no int
					continue
				}
				all := mustZoom(t, x, m, from, count)
				for cut := range count + 1 {
					joined := slices.Concat(mustZoom(t, x, m, from, cut), mustZoom(t, x, m, from+cut, count-cut))
					if !alikeLists(joined, all) {
						t.Fatalf("Zoom of %v by %d, from %d, %d, cut at %d: %v, whole %v", x, m, from, count, cut, joined, all)
					}
				}
			}
		}
	}
}

// P13.5.
func TestSizes(t *testing.T) {
	taken := 0
	for n := -5; n <= maxInner+5; n++ {
		size, err := Size(n)
		if err != nil {
			continue
		}
		taken++
		if size&(size-1) != 0 || size < Least(n) || size >= 2*Least(n) || Least(n) == 0 {
			t.Fatalf("Size(%d) = %d, Least %d", n, size, Least(n))
		}
	}
	if taken != maxInner/2 {
		t.Errorf("%d lengths have a size", taken)
	}
}

func near(a, b []complex128) bool {
	return slices.EqualFunc(a, b, func(a, b complex128) bool { return cplx.Abs(a-b) < 1e-10 })
}

// turned is exp(-2 pi i k / n), by the library.
func turned(n, k int) complex128 {
	s, c := math.Sincos(2 * math.Pi * float64(k%n) / float64(n))
	return complex(c, -s)
}

// Chirps, the other list and zooms lie where the definitions say.
func TestNear(t *testing.T) {
	r := rand.New(rand.NewSource(11))
	for _, n := range []int{1, 2, 3, 5, 16, 31, 100, 1000} {
		var want []complex128
		for j := range n {
			want = append(want, turned(2*n, j*j))
		}
		if !near(mustList(t, n), want) {
			t.Errorf("List(%d)", n)
		}
	}
	for _, c := range []struct{ n, m, from, count int }{{1, 1, 0, 1}, {7, 5, 2, 9}, {20, 64, 60, 10}, {100, maxZoom, 12345, 20}, {64, 1000, 3, 64}} {
		x := byChance(r, c.n, kinds()[0])
		var want []complex128
		for k := range c.count {
			var sum complex128
			for j, v := range x {
				sum += v * turned(c.m, j*(c.from+k))
			}
			want = append(want, sum)
		}
		if !near(mustZoom(t, x, c.m, c.from, c.count), want) {
			t.Errorf("Zoom of %v", c)
		}
	}
}

// What the chirps are for: the list times the chirps, convolved round m places with the other list, and times the chirps again, is near the transform.
func TestBluestein(t *testing.T) {
	r := rand.New(rand.NewSource(12))
	for n := 1; n <= 40; n++ {
		size, err := Size(n)
		if err != nil {
			t.Fatal(err)
		}
		for _, m := range []int{Least(n), Least(n) + 1, size} {
			x, chirps, other := byChance(r, n, kinds()[0]), mustList(t, n), mustOther(t, n, m)
			var got []complex128
			for k := range n {
				var sum complex128
				for j := range n {
					sum += x[j] * chirps[j] * other[(k-j+m)%m]
				}
				got = append(got, sum*chirps[k])
			}
			want, err := direct.Forward(x)
			if err != nil || !near(got, want) {
				t.Fatalf("Bluestein's way for %d, by %d: %v, want %v", n, m, got, want)
			}
		}
	}
}
