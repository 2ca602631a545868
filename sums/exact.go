package sums

import (
	"math"

	"timbre/api"
	"timbre/bits"
)

// classSet are the classes of floats that a list has.
type classSet [api.NaN + 1]bool

// Exact is the sum as a whole, rounded once. Whatever isn't finite is told without reckoning, and so are -0 alone: a whole number has no sign at 0.
func Exact(list []float64) float64 {
	has := classes(list)
	switch {
	case has[api.NaN] || has[api.Inf] && has[api.NegInf]:
		return math.NaN()
	case has[api.Inf]:
		return math.Inf(1)
	case has[api.NegInf]:
		return math.Inf(-1)
	case has == classSet{api.NegZero: true}:
		return bits.Of(signBit)
	}
	return finite(list)
}

func classes(list []float64) classSet {
	var has classSet
	for _, f := range list {
		has[bits.Class(f)] = true
	}
	return has
}

// finite is the exact sum of finite floats. Those above and those below 0 are added up apart, so that nothing on the way has a sign.
func finite(list []float64) float64 {
	var above, below wide
	for _, f := range list {
		b := bits.Bits(f)
		if b&signBit == 0 {
			above.add(b)
		} else {
			below.add(b &^ signBit)
		}
	}
	if above.less(&below) {
		below.subtract(&above)
		return bits.Of(signBit | below.rounded())
	}
	above.subtract(&below)
	return bits.Of(above.rounded())
}
