package sums

import (
	"math"
	"math/big"
	"math/rand"
	"slices"
	"testing"

	"timbre/bits"
)

// wantExact is the exact sum, by the library's whole numbers of any size.
func wantExact(list []float64) float64 {
	nans, up, down, low := 0, 0, 0, 0
	sum, unit := new(big.Float).SetPrec(2400), new(big.Float).SetPrec(2400)
	for _, x := range list {
		switch {
		case x != x:
			nans++
		case x > most:
			up++
		case x < -most:
			down++
		default:
			sum.Add(sum, unit.SetFloat64(x))
		}
		if math.Float64bits(x) == 1<<63 {
			low++
		}
	}
	switch {
	case nans > 0 || up > 0 && down > 0:
		return nan
	case up > 0:
		return inf
	case down > 0:
		return -inf
	case low > 0 && low == len(list):
		return minusZero
	case sum.Sign() == 0:
		return 0
	}
	f, _ := sum.Float64()
	return f
}

func checkExact(t *testing.T, list []float64, want float64) {
	t.Helper()
	if got := Exact(list); !alike(got, want) {
		if len(list) > 20 {
			list = list[:20]
		}
		t.Fatalf("Exact of %x .. is %x, want %x", list, got, want)
	}
}

// About each two neighbours of every exponent: a sum below the half, the half itself, and a sum above it, whatever lies how far below.
func TestExactRoundsOnce(t *testing.T) {
	r := rand.New(rand.NewSource(4))
	for power := -1021; power <= 1023; power++ {
		for _, odd := range []uint64{0, 1, 1<<52 - 1, 1<<52 - 2, r.Uint64() >> 12} {
			x := math.Float64frombits(uint64(power+1023)<<52 | odd)
			half := math.Ldexp(1, power-53)
			next := math.Float64frombits(math.Float64bits(x) + 1) // behind the greatest one: infinity
			even := x
			if odd%2 == 1 {
				even = next
			}
			checkExact(t, []float64{x, half}, even)
			if half > least {
				checkExact(t, []float64{half / 2, x, half / 2}, even)
				checkExact(t, []float64{x, half, -least}, x)
				checkExact(t, []float64{least, x, half}, next)
				far := math.Ldexp(1, -1074+r.Intn(power-53+1074))
				checkExact(t, []float64{-far, -x, -half, minusZero}, -next)
				checkExact(t, []float64{-half, far, -x}, -x)
			}
		}
	}
}

func TestExactAtTheGreatest(t *testing.T) {
	const half = 0x1p970 // half the step between the greatest float and 2^1024
	for _, c := range []struct {
		list []float64
		want float64
	}{
		{[]float64{most, half}, inf},
		{[]float64{most, half, -least}, most},
		{[]float64{-least, half, most}, most},
		{[]float64{most, math.Nextafter(half, 0)}, most},
		{[]float64{-most, -half}, -inf},
		{[]float64{-most, -half, least}, -most},
		{[]float64{most, half, half, -half}, inf},
		{[]float64{most, half, half, -half, -least}, most},
		{[]float64{0x1p1023, 0x1p1023}, inf},
		{[]float64{0x1p1023, 0x1p1023, -half}, inf},
		{[]float64{0x1p1023, 0x1p1023, -half, -least}, most},
		{[]float64{0x1p1023, 0x1p1023, -0x1p971}, most},
	} {
		checkExact(t, c.list, c.want)
	}
}

// Sums far beyond the greatest float come back, in any order: nothing on the way is rounded or wraps round.
func TestExactOfMany(t *testing.T) {
	const n = 1 << 18
	list := make([]float64, 2*n)
	for i := range n {
		list[i], list[n+i] = most, -most
	}
	checkExact(t, list, 0)
	checkExact(t, list[:n], inf)
	checkExact(t, list[n:], -inf)
	checkExact(t, append(slices.Clone(list), -least), -least)
	checkExact(t, append(slices.Clone(list), minusZero), 0)
	for i := range list { // together a power of two, beyond all that fewer could come to
		list[i] = 0x1p1023
	}
	checkExact(t, list, inf)
	checkExact(t, append(slices.Clone(list), -most), inf)
	for i := range list {
		list[i] = normal - least
	}
	checkExact(t, list, wantExact(list))
	for i := range list {
		list[i] = -math.Ldexp(0x1.fffffffffffffp0, i%2000-1000)
	}
	checkExact(t, list, wantExact(list))
}

// A carry that goes through all words, and one that is borrowed back.
func TestExactCarries(t *testing.T) {
	var list []float64
	for power := 1023; power >= -1074; power-- {
		list = append(list, math.Ldexp(1, power))
		checkExact(t, list[1:], wantExact(list[1:]))
	}
	checkExact(t, list, inf)                                         // 2^1024 less 2^-1074
	checkExact(t, append(slices.Clone(list[1:]), least), 0x1p1023)   // just that
	checkExact(t, append(slices.Clone(list[1:]), -0x1p1023), -least) // less that
	for i := range list {
		checkExact(t, append(slices.Clone(list[i:]), least), 2*list[i])
	}
}

// P9.2.
func TestExactHasNoOrder(t *testing.T) {
	r := rand.New(rand.NewSource(5))
	eachList(func(list []float64) {
		want := Exact(list)
		turned := slices.Clone(list)
		slices.Reverse(turned)
		checkExact(t, turned, want)
		r.Shuffle(len(turned), func(i, j int) { turned[i], turned[j] = turned[j], turned[i] })
		checkExact(t, turned, want)
		slices.SortFunc(turned, bits.Compare)
		checkExact(t, turned, want)
	})
}

func TestExactWithNegativesPutIn(t *testing.T) {
	r := rand.New(rand.NewSource(6))
	all := edges()
	finite := all[:len(all)-4]
	eachList(func(list []float64) {
		want := Exact(list)
		more := slices.Clone(list)
		for range 1 + r.Intn(4) {
			x := finite[r.Intn(len(finite))]
			more = slices.Insert(more, r.Intn(len(more)+1), x)
			more = slices.Insert(more, r.Intn(len(more)+1), -x)
		}
		got := Exact(more)
		if slices.ContainsFunc(list, func(x float64) bool { return x != 0 }) {
			if !alike(got, want) {
				t.Fatalf("Exact of %v is %v, not %v", more, got, want)
			}
		} else if got != want {
			t.Fatalf("Exact of %v is %v, not equal to %v", more, got, want)
		}
	})
}

// P9.4.
func TestExactScaled(t *testing.T) {
	r := rand.New(rand.NewSource(7))
	scaled := func(list []float64, k int) []float64 {
		var out []float64
		for _, x := range list {
			out = append(out, x*math.Ldexp(1, k))
		}
		return out
	}
	for round := range 3000 {
		list := make([]float64, r.Intn(30))
		reach := []int{1, 60, 900}[round%3]
		for i := range list {
			list[i] = math.Ldexp(float64(2*r.Intn(2)-1)*(1+r.Float64()), max(-900, r.Intn(2*reach)-reach))
			if r.Intn(10) == 0 {
				list[i] = math.Copysign([]float64{0, 0x1p-900, 0x1p900}[r.Intn(3)], list[i])
			}
		}
		for _, k := range []int{-64, 64, 0, 1, r.Intn(129) - 64} {
			sum, got := Exact(list)*math.Ldexp(1, k), Exact(scaled(list, k))
			if size := math.Abs(sum); sum != 0 && (size < 0x1p-950 || size > 0x1p950) {
				continue
			}
			if got != sum {
				t.Fatalf("Exact of %v times 2^%d is %v, not %v", list, k, got, sum)
			}
		}
	}
}

// The exact sum is a nearest float: neither neighbour is nearer.
func TestExactIsNearest(t *testing.T) {
	wide := func(x float64) *big.Float { return new(big.Float).SetPrec(2400).SetFloat64(x) }
	r := rand.New(rand.NewSource(8))
	for _, kind := range kinds()[:7] {
		for range 100 {
			list := byChance(r, 1+r.Intn(40), kind)
			sum := wide(0)
			for _, x := range list {
				sum.Add(sum, wide(x))
			}
			got := Exact(list)
			if math.IsInf(got, 0) {
				continue
			}
			apart := func(x float64) *big.Float { d := wide(0); return d.Abs(d.Sub(sum, wide(x))) }
			for _, other := range []float64{math.Nextafter(got, most), math.Nextafter(got, -most)} {
				if apart(other).Cmp(apart(got)) < 0 {
					t.Fatalf("Exact of %v is %v, but %v is nearer", list, got, other)
				}
			}
		}
	}
}
