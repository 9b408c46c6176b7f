// Package nat is layer 1, whole numbers of many limbs: see shared/doc/01-nat.md.
package nat

import (
	"math/bits"

	"chirograph/api"
)

// Cmp tells which of two numbers is greater: -1, 0 or 1.
func Cmp(a, b []uint64) int {
	a, b = cut(a), cut(b)
	width := max(len(a), len(b))
	for i := range width {
		x, y := limb(a, width-1-i), limb(b, width-1-i)
		if x < y {
			return -1
		}
		if x > y {
			return 1
		}
	}
	return 0
}

// Add and Sub tell what goes beyond the width; Mul has room for all.
func Add(a, b []uint64) ([]uint64, uint64) {
	a, b = cut(a), cut(b)
	sum := make([]uint64, max(len(a), len(b)))
	carry := uint64(0)
	for i := range len(sum) {
		sum[i], carry = bits.Add64(limb(a, i), limb(b, i), carry)
	}
	return sum, carry
}

func Sub(a, b []uint64) ([]uint64, uint64) {
	a, b = cut(a), cut(b)
	diff := make([]uint64, max(len(a), len(b)))
	borrow := uint64(0)
	for i := range len(diff) {
		diff[i], borrow = bits.Sub64(limb(a, i), limb(b, i), borrow)
	}
	return diff, borrow
}

func Mul(a, b []uint64) []uint64 {
	a, b = cut(a), cut(b)
	product := make([]uint64, len(a)+len(b))
	for i := range len(a) {
		end := i + len(b)
		product[end] = addTimes(product[i:end:end], b, a[i])
	}
	return product
}

// Bits is how many bits a number has; Rem what it leaves, divided by another one.
func Bits(a []uint64) int {
	a = trim(cut(a))
	if len(a) == 0 {
		return 0
	}
	return 64*(len(a)-1) + bits.Len64(a[len(a)-1])
}

func Rem(a, m []uint64) ([]uint64, api.Errno) {
	a, m = cut(a), cut(m)
	divisor := trim(m)
	if len(divisor) == 0 {
		return nil, api.ErrArg
	}
	rest := make([]uint64, len(m))
	copy(rest, divide(a, divisor))
	return rest, api.OK
}

// Put writes a number as bytes, the highest first; Get reads one.
func Put(a []uint64) string {
	a = cut(a)
	text := make([]byte, 0, limbBytes*len(a))
	for i := range len(a) {
		text = putLimb(text, a[len(a)-1-i])
	}
	return string(text)
}

func Get(s string) ([]uint64, api.Errno) {
	if len(s)%limbBytes != 0 || len(s) > limbBytes*api.MaxLimbs {
		return nil, api.ErrLen
	}
	a := make([]uint64, len(s)/limbBytes)
	for i := range len(a) {
		a[len(a)-1-i] = getLimb(s[limbBytes*i : limbBytes*(i+1)])
	}
	return a, api.OK
}
