package mont

import (
	"iter"
	"math/bits"

	"chirograph/nat"
)

// widest is how many limbs a modulus may have. Twice as many are still not
// cut by layer nat, and bring leans on that.
const widest = 8

func isModulus(m []uint64) bool {
	if len(m) == 0 || len(m) > widest {
		return false
	}
	return m[0]%2 == 1 && nat.Bits(m) > 1
}

func isElement(a, m []uint64) bool {
	return len(a) == len(m) && nat.Cmp(a, m) < 0
}

func one(width int) []uint64 {
	row := make([]uint64, width)
	row[0] = 1
	return row
}

// bring answers what a times R leaves: a, moved up by m's width, is a times R.
// It is the one division here, and Pow needs it ahead of all its products.
func bring(a, m []uint64) []uint64 {
	shifted := append(make([]uint64, len(m)), a...)
	rest, _ := nat.Rem(shifted, m)
	return rest
}

// bitsDown hands on the bits of a number, from its highest 1 down.
func bitsDown(e []uint64) iter.Seq[uint64] {
	return func(yield func(uint64) bool) {
		for i := nat.Bits(e) - 1; i >= 0; i-- {
			if !yield(e[i/64] >> (i % 64) & 1) {
				return
			}
		}
	}
}

// multiply puts a times b, divided by R, into z, which may be a or b itself.
//
// For each limb of a the sum takes b times that limb, and as often the modulus
// as makes its lowest limb 0; that limb is then dropped. As a and b are below
// the modulus, the sum stays below it twice, whatever the step.
func multiply(z, a, b, m []uint64, neg uint64) {
	var room [widest + 1]uint64
	sum := room[:len(m)+1]
	for i := range len(m) {
		addStep(sum, b, m, a[i], neg)
	}
	settle(z, sum, m)
}

// addStep makes of sum what sum and b times x and a multiple of m are, less
// the lowest limb, which is 0.
func addStep(sum, b, m []uint64, x, neg uint64) {
	width := len(m)
	sum, b = sum[:width+1], b[:width]
	up, low := mulAdd(b[0], x, sum[0], 0)
	times := low * neg
	over, _ := mulAdd(m[0], times, low, 0)
	for i := 1; i < width; i++ {
		up, low = mulAdd(b[i], x, sum[i], up)
		over, sum[i-1] = mulAdd(m[i], times, low, over)
	}
	top, carry := bits.Add64(sum[width], up, 0)
	sum[width-1], up = bits.Add64(top, over, 0)
	sum[width] = carry + up
}

// settle copies into z what is below m: sum, or sum less m. The sum is a limb
// wider, and below m twice.
func settle(z, sum, m []uint64) {
	var room [widest]uint64
	less := room[:len(m)]
	borrow := uint64(0)
	for i := range len(m) {
		less[i], borrow = bits.Sub64(sum[i], m[i], borrow)
	}
	if sum[len(m)] < borrow {
		less = sum[:len(m)]
	}
	copy(z, less)
}

// mulAdd can't overflow: (2^64-1)^2 + 2(2^64-1) is 2^128 - 1. Its carries go
// through bits.Add64, and not by +, as that is a third faster.
func mulAdd(x, y, more, carry uint64) (high, low uint64) {
	high, low = bits.Mul64(x, y)
	low, up := bits.Add64(low, more, 0)
	high, _ = bits.Add64(high, 0, up)
	low, up = bits.Add64(low, carry, 0)
	high, _ = bits.Add64(high, 0, up)
	return high, low
}
