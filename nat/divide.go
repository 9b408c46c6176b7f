package nat

import (
	"math"
	"math/bits"
)

// divide answers what a leaves, divided by m, of m's width. The highest limb
// of m must not be 0.
//
// It is long division with limbs as digits. Both numbers are first shifted up
// until m's highest bit is 1: a digit that is guessed from the highest limbs
// alone is then never too low, and too high by 2 at most.
func divide(a, m []uint64) []uint64 {
	width := len(m)
	shift := bits.LeadingZeros64(m[width-1])
	divisor := shiftUp(m, shift, width)
	rest := shiftUp(a, shift, max(len(a), width)+1)
	digits := len(rest) - width
	for i := range digits {
		from := digits - 1 - i
		to := from + width + 1
		takeDigit(rest[from:to:to], divisor)
	}
	return shiftDown(rest[:width:width], shift)
}

// takeDigit takes the divisor off a window, one limb wider than it, as often
// as it goes in: what stays is below the divisor.
func takeDigit(window, divisor []uint64) {
	width := len(divisor)
	digit := guessDigit(window[width], window[width-1], divisor[width-1])
	below := subTimes(window, divisor, digit)
	for below == 1 {
		below -= addBack(window, divisor)
	}
}

// guessDigit asks for the highest digit where the quotient would have more
// than one: bits.Div64 panics there.
func guessDigit(high, low, top uint64) uint64 {
	if high >= top {
		return math.MaxUint64
	}
	digit, _ := bits.Div64(high, low, top)
	return digit
}

// subTimes answers 1 if the window went below 0, and round.
func subTimes(window, divisor []uint64, digit uint64) uint64 {
	carry, borrow := uint64(0), uint64(0)
	for i := range len(divisor) {
		high, low := mulAdd(divisor[i], digit, 0, carry)
		window[i], borrow = bits.Sub64(window[i], low, borrow)
		carry = high
	}
	top := len(divisor)
	window[top], borrow = bits.Sub64(window[top], carry, borrow)
	return borrow
}

// addBack answers 1 if the window came round to 0 or above again.
func addBack(window, divisor []uint64) uint64 {
	carry := uint64(0)
	for i := range len(window) {
		window[i], carry = bits.Add64(window[i], limb(divisor, i), carry)
	}
	return carry
}

// shiftUp and shiftDown lean on a shift by all 64 bits being 0.
func shiftUp(a []uint64, by, width int) []uint64 {
	out := make([]uint64, width)
	carry := uint64(0)
	for i := range width {
		x := limb(a, i)
		out[i] = x<<by | carry
		carry = x >> (64 - by)
	}
	return out
}

func shiftDown(a []uint64, by int) []uint64 {
	out := make([]uint64, len(a))
	for i := range len(a) {
		out[i] = a[i]>>by | limb(a, i+1)<<(64-by)
	}
	return out
}
