package text

import (
	mathbits "math/bits"
	"slices"
)

// natural is a whole number from 0 on, of any size: its words, the lowest first, none of them at the high end 0.
type natural []uint64

const (
	wordBits = 64

	wordTens        = 19 // 10^19 is the greatest power of ten in a word
	wordTen  uint64 = 10_000_000_000_000_000_000
)

// naturalOf is the natural of one word.
func naturalOf(w uint64) natural { return natural{w}.trimmed() }

// trimmed is n without the words 0 at its high end.
func (n natural) trimmed() natural {
	for len(n) > 0 && n[len(n)-1] == 0 {
		n = n[:len(n)-1]
	}
	return n
}

// length is how many binary digits n has; 0 has none.
func (n natural) length() int {
	if len(n) == 0 {
		return 0
	}
	last := len(n) - 1
	return last*wordBits + mathbits.Len64(n[last])
}

// timesPlus is n x f + c, laid over n's own words; f isn't 0.
func (n natural) timesPlus(f, c uint64) natural {
	for i, w := range n {
		high, low := mathbits.Mul64(w, f)
		sum, carry := mathbits.Add64(low, c, 0)
		n[i], c = sum, high+carry
	}
	if c != 0 {
		n = append(n, c)
	}
	return n
}

// timesTens is n x 10^k, laid over n's own words.
func (n natural) timesTens(k int) natural {
	for ; k >= wordTens; k -= wordTens {
		n = n.timesPlus(wordTen, 0)
	}
	return n.timesPlus(tens(k), 0)
}

// tens is 10^k, for k up to wordTens.
func tens(k int) uint64 {
	power := uint64(1)
	for range k {
		power *= 10
	}
	return power
}

// doubled is n x 2^k, in new words.
func (n natural) doubled(k int) natural {
	words, rest := k/wordBits, uint(k%wordBits)
	out := make(natural, words, words+len(n)+1)
	var carry uint64
	for _, w := range n {
		out = append(out, w<<rest|carry)
		carry = w >> (wordBits - rest)
	}
	return append(out, carry).trimmed()
}

// halve is n over 2, rounded down, laid over n's own words.
func (n natural) halve() natural {
	var carry uint64
	for i := len(n) - 1; i >= 0; i-- {
		w := n[i]
		n[i] = w>>1 | carry
		carry = w << (wordBits - 1)
	}
	return n.trimmed()
}

// below tells whether n is less than o.
func (n natural) below(o natural) bool {
	if len(n) != len(o) {
		return len(n) < len(o)
	}
	for i := len(n) - 1; i >= 0; i-- {
		if n[i] != o[i] {
			return n[i] < o[i]
		}
	}
	return false
}

// minus is n less o, laid over n's own words; o is at most n.
func (n natural) minus(o natural) natural {
	var borrow uint64
	for i := range n {
		var w uint64
		if i < len(o) {
			w = o[i]
		}
		n[i], borrow = mathbits.Sub64(n[i], w, borrow)
	}
	return n.trimmed()
}

// over is n over d, rounded down, and the rest; d isn't 0, and the quotient is below 2^64.
func (n natural) over(d natural) (quotient uint64, rest natural) {
	steps := max(0, n.length()-d.length())
	rest = slices.Clone(n)
	part := d.doubled(steps)
	for range steps + 1 {
		quotient <<= 1
		if !rest.below(part) {
			rest = rest.minus(part)
			quotient |= 1
		}
		part = part.halve()
	}
	return quotient, rest
}
