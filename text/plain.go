package text

import (
	mathbits "math/bits"
	"slices"
	"strconv"
	"strings"

	"timbre/api"
	"timbre/bits"
)

// How IEEE 754 lays out a float64.
const (
	signBit uint64 = 1 << 63
	infBits uint64 = 0x7ff0000000000000
	nanBits uint64 = 0x7ff8000000000000
	leadBit uint64 = 1 << 52 // of a normal float's digits: it isn't stored

	digitCount = 53    // digits of a normal float, the lead bit among them
	leastPower = -1074 // the power of two of a denormal float's last digit
)

// The texts that have no digits.
const (
	nanText      = "nan"
	infText      = "inf"
	minusInfText = "-inf"
)

// Plain is a float as the shortest decimal text that reads back.
func Plain(f float64) string {
	switch bits.Class(f) {
	case api.NaN:
		return nanText
	case api.Inf:
		return infText
	case api.NegInf:
		return minusInfText
	case api.Zero:
		return "0e0"
	case api.NegZero:
		return "-0e0"
	}
	b := bits.Bits(f)
	text := plainSize(b &^ signBit)
	if b&signBit != 0 {
		return "-" + text
	}
	return text
}

// plainSize is the plain text of the float of a size (its bits without the sign), finite and not 0.
func plainSize(size uint64) string {
	v := viewOf(size)
	digits := strconv.FormatUint(v.shortest(), 10)
	exponent := strconv.Itoa(v.power + len(digits) - 1)
	digits = strings.TrimRight(digits, "0")
	if len(digits) == 1 {
		return digits + "e" + exponent
	}
	return digits[:1] + "." + digits[1:] + "e" + exponent
}

// viewDigits is one digit more than any float needs to be told from all others, so that whatever is left out of fewer digits is held against a half by whole numbers.
const viewDigits = 18

// view is a float's size in decimal units of which it has viewDigits digits ahead of the point.
type view struct {
	power int    // the unit is 10^power
	whole uint64 // the size, rounded down
	exact bool   // whether nothing was rounded
	least uint64 // the least number of units that is read as the float
	most  uint64 // the greatest one
}

func viewOf(size uint64) view {
	m, power := apart(size)
	// 2^e is at most the size, and 2^(e+1) above it, so that the size has as many digits as 2^e, or one more.
	e := power + mathbits.Len64(m) - 1
	v := viewAt(m, power, tensOfTwos(e)-(viewDigits-1))
	if v.whole >= tens(viewDigits) {
		v = viewAt(m, power, v.power+1)
	}
	return v
}

// tensOfTwos is the greatest whole number t with 10^t at most 2^e, for every e of a float.
func tensOfTwos(e int) int {
	return e * 78913 >> 18 // 78913/2^18 is near enough to the logarithm
}

// apart takes the size of a finite float apart: its value is m x 2^power.
func apart(size uint64) (m uint64, power int) {
	if size < leadBit {
		return size, leastPower
	}
	return size&(leadBit-1) | leadBit, int(size>>(digitCount-1)) - 1 + leastPower
}

// viewAt is the view of m x 2^power in units of 10^unit.
func viewAt(m uint64, power, unit int) view {
	// In quarters of m's last digit the borders to both neighbours are whole numbers; behind a power of two the neighbour below is but half as far.
	top, bottom := 4*m+2, 4*m-2
	if m == leadBit && power > leastPower {
		bottom = 4*m - 1
	}
	s := scaleOf(power-2, unit)
	v := view{power: unit}
	v.whole, v.exact = s.units(4 * m)
	var whole bool
	v.least, whole = s.units(bottom)
	if !whole || m%2 == 1 { // a border is read as the even one of its two floats
		v.least++
	}
	v.most, whole = s.units(top)
	if whole && m%2 == 1 {
		v.most--
	}
	return v
}

// scale turns whole numbers of one unit into another: times up, over down.
type scale struct{ up, down natural }

// scaleOf is from units of 2^power to units of 10^unit.
func scaleOf(power, unit int) scale {
	return scale{
		up:   naturalOf(1).timesTens(max(-unit, 0)).doubled(max(power, 0)),
		down: naturalOf(1).timesTens(max(unit, 0)).doubled(max(-power, 0)),
	}
}

// units is n in the other unit, rounded down, and whether nothing was rounded.
func (s scale) units(n uint64) (uint64, bool) {
	quotient, rest := slices.Clone(s.up).timesPlus(n, 0).over(s.down)
	return quotient, len(rest) == 0
}

// shortest is the number of units of the fewest digits (noughts at its end aside) that is read as the float, and of these the nearest one.
func (v view) shortest() uint64 {
	grain := tens(viewDigits - 1)
	n, found := v.nearest(grain)
	for !found && grain > 10 { // at 10, which leaves 17 digits, every float is found
		grain /= 10
		n, found = v.nearest(grain)
	}
	return n
}

// nearest is the multiple of a grain (a power of ten, 10 at least) that is nearest to the float, of those that are read as it; of two the one with the even last digit; and whether there is one. It is one of the two about the float, since what is read as it lies about it without a gap.
func (v view) nearest(grain uint64) (uint64, bool) {
	low := v.whole / grain * grain
	high := low + grain
	switch lowReads, highReads := low >= v.least, high <= v.most; {
	case lowReads && highReads:
		if v.nearerHigh(grain) {
			return high, true
		}
		return low, true
	case lowReads:
		return low, true
	case highReads:
		return high, true
	}
	return 0, false
}

// nearerHigh tells whether, of the two multiples of a grain about the float, the greater one is nearer, or as near and the even one.
func (v view) nearerHigh(grain uint64) bool {
	rest, half := v.whole%grain, grain/2
	if rest == half && v.exact {
		return v.whole/grain%2 == 1
	}
	return rest >= half
}
