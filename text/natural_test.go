package text

import (
	"math/big"
	"math/rand"
	"testing"
)

// whole is a natural as math/big has it.
func (n natural) whole() *big.Int {
	out := new(big.Int)
	for i := len(n) - 1; i >= 0; i-- {
		out.Lsh(out, 64)
		out.Or(out, new(big.Int).SetUint64(n[i]))
	}
	return out
}

func tenTo(k int) *big.Int { return new(big.Int).Exp(big.NewInt(10), big.NewInt(int64(k)), nil) }

func isTrimmed(n natural) bool { return len(n) == 0 || n[len(n)-1] != 0 }

// someNaturals are made of words at their edges and of any words, 0 among them, the seed always the same.
func someNaturals() []natural {
	words := []uint64{0, 1, 2, 1 << 63, 1<<64 - 1}
	out := []natural{nil}
	for _, low := range words {
		out = append(out, natural{low}.trimmed())
		for _, high := range words {
			out = append(out, natural{low, high}.trimmed(), natural{low, 0, high}.trimmed(), natural{high, low, low, high}.trimmed())
		}
	}
	r := rand.New(rand.NewSource(1))
	for size := 1; size < 40; size++ {
		n := make(natural, size)
		for i := range n {
			n[i] = r.Uint64()
		}
		out = append(out, n)
	}
	return out
}

func (n natural) copied() natural { return append(natural(nil), n...) }

func TestNaturalBySmallOnes(t *testing.T) {
	for _, n := range someNaturals() {
		if n.length() != n.whole().BitLen() {
			t.Errorf("%x has %d digits", n, n.length())
		}
		for _, f := range []uint64{1, 2, 10, wordTen, 1<<64 - 1} {
			for _, c := range []uint64{0, 1, 9, 1<<64 - 1} {
				want := new(big.Int).Mul(n.whole(), new(big.Int).SetUint64(f))
				want.Add(want, new(big.Int).SetUint64(c))
				if got := n.copied().timesPlus(f, c); got.whole().Cmp(want) != 0 || !isTrimmed(got) {
					t.Fatalf("%x times %d plus %d is %x", n, f, c, got)
				}
			}
		}
		for _, k := range []int{0, 1, 18, 19, 20, 38, 100} {
			if got := n.copied().timesTens(k); got.whole().Cmp(new(big.Int).Mul(n.whole(), tenTo(k))) != 0 || !isTrimmed(got) {
				t.Fatalf("%x times 10^%d is %x", n, k, got)
			}
		}
		for _, k := range []int{0, 1, 63, 64, 65, 130} {
			was := n.copied()
			if got := n.doubled(k); got.whole().Cmp(new(big.Int).Lsh(n.whole(), uint(k))) != 0 || !isTrimmed(got) {
				t.Fatalf("%x times 2^%d is %x", n, k, got)
			} else if len(got) > 0 {
				got[0]++
			}
			if n.whole().Cmp(was.whole()) != 0 {
				t.Fatalf("doubled shares the words of %x", was)
			}
		}
		if got := n.copied().halve(); got.whole().Cmp(new(big.Int).Rsh(n.whole(), 1)) != 0 || !isTrimmed(got) {
			t.Fatalf("half of %x is %x", n, got)
		}
	}
}

func TestNaturalsAgainstOneAnother(t *testing.T) {
	list := someNaturals()
	for _, n := range list {
		for _, o := range list {
			if got, want := n.below(o), n.whole().Cmp(o.whole()) < 0; got != want {
				t.Fatalf("%x below %x: %v", n, o, got)
			}
			if !n.below(o) {
				if got := n.copied().minus(o); got.whole().Cmp(new(big.Int).Sub(n.whole(), o.whole())) != 0 || !isTrimmed(got) {
					t.Fatalf("%x less %x is %x", n, o, got)
				}
			}
			if len(o) == 0 {
				continue
			}
			quotient, rest := new(big.Int).QuoRem(n.whole(), o.whole(), new(big.Int))
			if !quotient.IsUint64() {
				continue
			}
			if q, r := n.over(o); q != quotient.Uint64() || r.whole().Cmp(rest) != 0 || !isTrimmed(r) {
				t.Fatalf("%x over %x is %x, rest %x", n, o, q, r)
			}
		}
	}
}

func TestTensOfTwos(t *testing.T) {
	for e := -1100; e <= 1100; e++ {
		k := tensOfTwos(e)
		at, next := power(10, k), power(10, k+1)
		if two := power(2, e); at.Cmp(two) > 0 || next.Cmp(two) <= 0 {
			t.Errorf("2^%d isn't from 10^%d on and below 10^%d", e, k, k+1)
		}
	}
}
