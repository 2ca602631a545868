package sums

import mathbits "math/bits"

// How IEEE 754 lays out a float64.
const (
	signBit   uint64 = 1 << 63
	infBits   uint64 = 0x7ff0000000000000
	leadBit   uint64 = 1 << 52 // of a normal float's digits: it isn't stored
	digitMask        = leadBit - 1

	digitCount = 53 // digits of a normal float, the first one included
	stored     = digitCount - 1
)

const wordBits = 64

// wide is a whole number of least floats (2^-1074), from 0 on: its words, the lowest first. The greatest float is below 2^2098 of them, and no list has 2^63 elements: a sum is below 2^2161, and the last word has room to spare.
type wide [34]uint64

// add adds the float of these bits, finite and without a sign.
func (w *wide) add(size uint64) {
	m, shift := size, 0
	if size >= leadBit {
		m, shift = size&digitMask|leadBit, int(size>>stored)-1
	}
	i, rest := shift/wordBits, uint(shift%wordBits)
	var carry uint64
	w[i], carry = mathbits.Add64(w[i], m<<rest, 0)
	w[i+1], carry = mathbits.Add64(w[i+1], m>>(wordBits-rest), carry)
	for i += 2; carry != 0; i++ {
		w[i], carry = mathbits.Add64(w[i], 0, carry)
	}
}

// less tells whether w is less than o.
func (w *wide) less(o *wide) bool {
	for i := len(w) - 1; i >= 0; i-- {
		if w[i] != o[i] {
			return w[i] < o[i]
		}
	}
	return false
}

// subtract takes o, which is at most w, from w.
func (w *wide) subtract(o *wide) {
	var borrow uint64
	for i := range w {
		w[i], borrow = mathbits.Sub64(w[i], o[i], borrow)
	}
}

// length is how many binary digits w has; 0 has none.
func (w *wide) length() int {
	for i := len(w) - 1; i >= 0; i-- {
		if w[i] != 0 {
			return i*wordBits + mathbits.Len64(w[i])
		}
	}
	return 0
}

// rounded are the bits of the float nearest to w, a half to the even one.
func (w *wide) rounded() uint64 {
	drop := w.length() - digitCount
	if drop <= 0 {
		return w[0] // the bits of the floats below 2^-1021 are their own count of least floats
	}
	m := w.halved(drop)
	if w.roundsUp(drop) {
		m++
	}
	// The first digit of m, and a carry beyond it, count one exponent more, as they should.
	return min(uint64(drop)<<stored+m, infBits)
}

// halved is w over 2^drop, rounded down; it has no more than 53 digits.
func (w *wide) halved(drop int) uint64 {
	i, rest := drop/wordBits, uint(drop%wordBits)
	return w[i]>>rest | w[i+1]<<(wordBits-rest)
}

// roundsUp tells whether w over 2^drop (drop is 1 at least) is nearer to the whole number above it, or as near, and the one below is odd.
func (w *wide) roundsUp(drop int) bool {
	return w.digit(drop-1) && (w.digit(drop) || w.anyBelow(drop-1))
}

// digit tells whether the binary digit number k is 1.
func (w *wide) digit(k int) bool { return w[k/wordBits]>>uint(k%wordBits)&1 == 1 }

// anyBelow tells whether a binary digit below the one number k is 1.
func (w *wide) anyBelow(k int) bool {
	for i := range k / wordBits {
		if w[i] != 0 {
			return true
		}
	}
	return w[k/wordBits]&(1<<uint(k%wordBits)-1) != 0
}
