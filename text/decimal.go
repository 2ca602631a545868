package text

import (
	mathbits "math/bits"
	"strings"

	"timbre/api"
	"timbre/bits"
)

const (
	decimalBytes = 400 // the greatest length of a decimal text

	hugeTens = 309  // 10^309 lies beyond all floats
	tinyTens = -324 // 10^-324 is less than half the least float

	exponentReach = 9999 // a greater exponent, even of 400 digits, tells no more

	quotientBits = 55 // of what is rounded, or one more: two more at least than a float has, so that a rest can be marked in the last
)

// ParsePlain reads a decimal text.
func ParsePlain(s string) (float64, error) {
	switch s {
	case nanText:
		return bits.Of(nanBits), nil
	case infText:
		return bits.Of(infBits), nil
	case minusInfText:
		return bits.Of(signBit | infBits), nil
	}
	d, ok := decimalOf(s)
	if !ok {
		return 0, api.ErrText
	}
	size := d.size()
	if size >= infBits {
		return 0, api.ErrRange
	}
	if d.minus {
		size |= signBit
	}
	return bits.Of(size), nil
}

// decimal is a number as it is written: the whole number of its digits (without noughts ahead; none of 0), times 10^power.
type decimal struct {
	minus  bool
	digits string
	power  int
}

// decimalOf takes a decimal text with digits apart, and tells whether it is one.
func decimalOf(s string) (decimal, bool) {
	if len(s) > decimalBytes {
		return decimal{}, false
	}
	s, minus := strings.CutPrefix(s, "-")
	whole, s, ok := cutDigits(s)
	if !ok {
		return decimal{}, false
	}
	fraction := ""
	if rest, dot := strings.CutPrefix(s, "."); dot {
		if fraction, s, ok = cutDigits(rest); !ok {
			return decimal{}, false
		}
	}
	exponent := 0
	if rest, e := strings.CutPrefix(s, "e"); e {
		if exponent, s, ok = cutExponent(rest); !ok {
			return decimal{}, false
		}
	}
	if s != "" {
		return decimal{}, false
	}
	digits := strings.TrimLeft(whole+fraction, "0")
	return decimal{minus, digits, exponent - len(fraction)}, true
}

// cutDigits cuts off the digits that s begins with, and tells whether there are any.
func cutDigits(s string) (digits, rest string, ok bool) {
	i := 0
	for i < len(s) && '0' <= s[i] && s[i] <= '9' {
		i++
	}
	return s[:i], s[i:], i > 0
}

// cutExponent cuts off the exponent that s begins with; one out of all reach is brought to the reach's end.
func cutExponent(s string) (exponent int, rest string, ok bool) {
	s, minus := strings.CutPrefix(s, "-")
	digits, rest, ok := cutDigits(s)
	for i := range len(digits) {
		exponent = min(10*exponent+int(digits[i]-'0'), exponentReach)
	}
	if minus {
		exponent = -exponent
	}
	return exponent, rest, ok
}

// size is the size of the float that is nearest to the number without its sign; infBits or more, if that is 2^1024 or beyond.
func (d decimal) size() uint64 {
	// The number is below 10^places, and not below a tenth of that, so that what is reckoned out is never of more than some 800 digits.
	places := len(d.digits) + d.power
	switch {
	case d.digits == "" || places <= tinyTens:
		return 0
	case places > hugeTens:
		return infBits
	}
	up, down := naturalOfDigits(d.digits), naturalOf(1)
	if d.power >= 0 {
		up = up.timesTens(d.power)
	} else {
		down = down.timesTens(-d.power)
	}
	return nearestSize(up, down)
}

func naturalOfDigits(digits string) natural {
	var n natural
	for i := range len(digits) {
		n = n.timesPlus(10, uint64(digits[i]-'0'))
	}
	return n
}

// nearestSize is the size of the float that is nearest to up over down, neither of them 0.
func nearestSize(up, down natural) uint64 {
	power := up.length() - down.length() - quotientBits
	quotient, rest := up.doubled(max(-power, 0)).over(down.doubled(max(power, 0)))
	if len(rest) > 0 {
		quotient |= 1
	}
	return roundedSize(quotient, power)
}

// roundedSize is the size of the float that is nearest to n x 2^power, for n of quotientBits digits or one more.
func roundedSize(n uint64, power int) uint64 {
	drop := max(mathbits.Len64(n)-digitCount, leastPower-power)
	m := rounded(n, drop)
	// The lead bit, where m has it, and a carry beyond it, add up with the exponent as they should.
	return uint64(power+drop-leastPower)<<(digitCount-1) + m
}

// rounded is n over 2^drop (drop is 1 at least), rounded to the nearest whole number, a half to the even one.
func rounded(n uint64, drop int) uint64 {
	half := uint64(1) << uint(drop-1)
	whole, rest := n>>uint(drop), n&(2*half-1)
	if rest > half || rest == half && whole%2 == 1 {
		whole++
	}
	return whole
}
