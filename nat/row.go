package nat

import (
	"math/bits"

	"chirograph/api"
)

const limbBytes = 8

// cut leaves out what the chapter never looks at. Its third index keeps an
// append to the answer from ever reaching the caller's limbs.
func cut(a []uint64) []uint64 {
	width := min(len(a), api.MaxLimbs)
	return a[:width:width]
}

// trim leaves out the limbs 0 on top, so that the last limb tells the size.
func trim(a []uint64) []uint64 {
	width := len(a)
	for width > 0 && a[width-1] == 0 {
		width--
	}
	return a[:width:width]
}

// limb lets rows of unlike widths be gone through together.
func limb(a []uint64, i int) uint64 {
	if i < len(a) {
		return a[i]
	}
	return 0
}

// mulAdd can't overflow: (2^64-1)^2 + 2(2^64-1) is 2^128 - 1.
func mulAdd(x, y, more, carry uint64) (high, low uint64) {
	high, low = bits.Mul64(x, y)
	low, up := bits.Add64(low, more, 0)
	high += up
	low, up = bits.Add64(low, carry, 0)
	return high + up, low
}

// addTimes adds b times x to a row of b's width, in its place, and answers
// what goes beyond.
func addTimes(row, b []uint64, x uint64) uint64 {
	carry := uint64(0)
	for i := range len(b) {
		carry, row[i] = mulAdd(b[i], x, row[i], carry)
	}
	return carry
}

func putLimb(text []byte, x uint64) []byte {
	for i := range limbBytes {
		text = append(text, byte(x>>(8*(limbBytes-1-i))))
	}
	return text
}

func getLimb(s string) uint64 {
	x := uint64(0)
	for i := range len(s) {
		x = x<<8 | uint64(s[i])
	}
	return x
}
