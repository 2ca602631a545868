// Package bits is layer 1: floats (float64) by their bits: which are alike, which class one is of, the order of all of them, the neighbours, the distance, powers of two. See shared/doc/01-bits.md.
package bits

import (
	"math"
	mathbits "math/bits"

	"timbre/api"
)

// How IEEE 754 lays out a float64.
const (
	signBit   uint64 = 1 << 63
	infBits   uint64 = 0x7ff0000000000000
	nanBits   uint64 = 0x7ff8000000000000
	leadBit   uint64 = 1 << 52 // of a normal float's digits: it isn't stored
	digitMask        = leadBit - 1

	digitCount = 52    // digits that are stored
	bias       = 1023  // the stored exponent of 1
	leastPower = -1074 // the exponent of the least float above 0
	mostPower  = 971   // the greatest exponent of the last of 53 digits
	scaleReach = 2200  // by more powers of two than this no float stays finite and other than 0
)

// Bits are a float's bits; those of every NaN are one.
func Bits(f float64) uint64 {
	b := math.Float64bits(f)
	if sizeOf(b) > infBits {
		return nanBits
	}
	return b
}

// Of is the float of these bits.
func Of(b uint64) float64 { return math.Float64frombits(b) }

// Same tells whether two floats are alike.
func Same(a, b float64) bool { return Bits(a) == Bits(b) }

// SameList tells whether two lists have the same length and are alike place by place.
func SameList(a, b []float64) bool {
	if len(a) != len(b) {
		return false
	}
	for i, f := range a {
		if !Same(f, b[i]) {
			return false
		}
	}
	return true
}

// Class is the number of a float's class. (The sign bit of a NaN isn't set in what Bits tells.)
func Class(f float64) int {
	b := Bits(f)
	if b&signBit == 0 {
		return classAbove(b)
	}
	// The line's classes lie mirrored about the gap between -0 and 0.
	return api.NegZero + api.Zero - classAbove(sizeOf(b))
}

// classAbove is the class of a float whose sign bit isn't set.
func classAbove(b uint64) int {
	switch {
	case b == 0:
		return api.Zero
	case b < leadBit:
		return api.Small
	case b < infBits:
		return api.Normal
	case b == infBits:
		return api.Inf
	}
	return api.NaN
}

// Compare orders all floats by where they stand on the line: -1, 0 or 1.
func Compare(a, b float64) int {
	p, q := place(a), place(b)
	switch {
	case p < q:
		return -1
	case p > q:
		return 1
	}
	return 0
}

// Up is the next float on the line; infinity and NaN are their own.
func Up(f float64) float64 {
	if isNaN(f) || Bits(f) == infBits {
		return f
	}
	return at(place(f) + 1)
}

// Down is the float ahead on the line; minus infinity and NaN are their own.
func Down(f float64) float64 {
	if isNaN(f) || Bits(f) == signBit|infBits {
		return f
	}
	return at(place(f) - 1)
}

// Apart is how many steps of Up lead from the one that stands ahead to the other.
func Apart(a, b float64) (uint64, error) {
	if isNaN(a) || isNaN(b) {
		return 0, api.ErrNumber
	}
	p, q := place(a), place(b)
	return max(p, q) - min(p, q), nil
}

// Exponent is the power of two of a float's first digit.
func Exponent(f float64) (int, error) {
	size := sizeOf(Bits(f))
	if size == 0 || size >= infBits {
		return 0, api.ErrNumber
	}
	_, power := digits(size)
	return power + digitCount, nil
}

// Scale is a float times 2^k, rounded once.
func Scale(f float64, k int) float64 {
	b := Bits(f)
	size := sizeOf(b)
	if size == 0 || size >= infBits {
		return f
	}
	m, power := digits(size)
	// An exponent plus the least or the greatest int would wrap round.
	power += max(-scaleReach, min(k, scaleReach))
	return Of(b&signBit | compose(m, power))
}

// Whole tells whether a float is finite and a whole number.
func Whole(f float64) bool {
	size := sizeOf(Bits(f))
	if size == 0 || size >= infBits {
		return size == 0
	}
	m, power := digits(size)
	switch {
	case power >= 0:
		return true
	case power < -digitCount:
		return false
	}
	return m&(1<<uint(-power)-1) == 0
}

// sizeOf is what is left of bits without the sign.
func sizeOf(b uint64) uint64 { return b &^ signBit }

func isNaN(f float64) bool { return Bits(f) == nanBits }

// place is where a float stands on the line: the neighbours' numbers differ by 1, NaN's is above all others'.
func place(f float64) uint64 {
	b := Bits(f)
	if b&signBit != 0 {
		return ^b
	}
	return b | signBit
}

// at is the float that stands there on the line.
func at(place uint64) float64 {
	if place&signBit != 0 {
		return Of(place &^ signBit)
	}
	return Of(^place)
}

// digits takes a finite size other than 0 apart into a whole number m of just 53 digits and a power: the size's value is m x 2^power.
func digits(size uint64) (m uint64, power int) {
	if size < leadBit {
		shift := digitCount + 1 - mathbits.Len64(size)
		return size << uint(shift), leastPower - shift
	}
	return size&digitMask | leadBit, int(size>>digitCount) - bias - digitCount
}

// compose is the size of the float nearest to m x 2^power, for m of just 53 digits.
func compose(m uint64, power int) uint64 {
	if power > mostPower {
		return infBits
	}
	if power < leastPower {
		return halved(m, leastPower-power)
	}
	return uint64(power+bias+digitCount)<<digitCount | m&digitMask
}

// halved is m, of just 53 digits, over 2^shift (shift is 1 at least), rounded to the nearest whole number, a half to the even one. A carry into the 53rd digit makes the least normal float, as it should.
func halved(m uint64, shift int) uint64 {
	if shift > digitCount+1 {
		return 0
	}
	half := uint64(1) << uint(shift-1)
	whole, rest := m>>uint(shift), m&(2*half-1)
	if rest > half || rest == half && whole&1 == 1 {
		whole++
	}
	return whole
}
