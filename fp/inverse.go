package fp

import (
	"math/bits"

	"chirograph/api"
	"chirograph/mont"
)

// inverse goes Euclid's way, in steps of Bernstein and Yang, who show that 1101 of
// them are enough for numbers of 381 bits. The element times d leaves f, and times e
// leaves g, modulo p; f and g get smaller, till g is 0 and f is 1 or -1. (Of 0 it is 0
// at once, and so is d.) A power, by Fermat, would take six times as long, and be
// most of what a sum of two points takes.
func inverse(a api.Fp) api.Fp {
	f, g := widen(modulus()), widen(a)
	d, e := wide{}, wide{1}
	for turn := 1; g != (wide{}); {
		var by factors
		turn, by = walk(turn, f[0], g[0])
		f, g = joined(f, g, by.first).down(), joined(f, g, by.second).down()
		d, e = joined(d, e, by.first).divided(), joined(d, e, by.second).divided()
	}
	if f.negative() {
		d = d.turned()
	}
	if d.negative() {
		d = d.plus(widen(modulus()), 1)
	}
	return number(d[:api.FpLimbs])
}

// steps is how many steps are found from lowest limbs alone, before all limbs
// follow. Each uses up one of the 64 bits, and doubles what the factors may be.
const steps = 60

// factors tell what two numbers become in steps: 2^steps times either one is so
// many times the first and so many times the second number.
type factors struct{ first, second [2]int64 }

// walk makes steps from the lowest limbs of two numbers, of which f is odd. The sign
// of turn, and no comparison, says which one is to be made smaller.
func walk(turn int, f, g uint64) (int, factors) {
	a, b, c, d := int64(1), int64(0), int64(0), int64(1)
	for range steps {
		if g%2 == 1 && turn > 0 {
			turn, f, g = -turn, g, -f
			a, b, c, d = c, d, -a, -b
		}
		if g%2 == 1 {
			g, c, d = g+f, c+a, d+b
		}
		turn, g, a, b = turn+1, g/2, 2*a, 2*b
	}
	return turn, factors{[2]int64{a, b}, [2]int64{c, d}}
}

// joined is a times the first factor and b times the second one.
func joined(a, b wide, by [2]int64) wide {
	return wide{}.plus(a, by[0]).plus(b, by[1])
}

// wide is a number with a sign, modulo 2^448: a limb more than an element has is
// room for one that was multiplied by factors.
type wide [api.FpLimbs + 1]uint64

func widen(a api.Fp) wide {
	var w wide
	copy(w[:], a[:])
	return w
}

func (a wide) negative() bool { return a[api.FpLimbs]>>63 == 1 }

func (a wide) turned() wide {
	borrow := uint64(0)
	for i := range a {
		a[i], borrow = bits.Sub64(0, a[i], borrow)
	}
	return a
}

// plus is a and b times k.
func (a wide) plus(b wide, k int64) wide {
	if k < 0 {
		b, k = b.turned(), -k
	}
	over := uint64(0)
	for i := range a {
		high, low := bits.Mul64(b[i], uint64(k))
		low, up := bits.Add64(low, a[i], 0)
		high += up
		a[i], up = bits.Add64(low, over, 0)
		over = high + up
	}
	return a
}

// down is a number without its lowest bits, as many as there are steps.
func (a wide) down() wide {
	for i := range api.FpLimbs {
		a[i] = a[i]>>steps | a[i+1]<<(64-steps)
	}
	a[api.FpLimbs] = uint64(int64(a[api.FpLimbs]) >> steps)
	return a
}

// divided is a number divided by 2^steps, modulo p. To make its lowest bits 0, p is
// added so often to a number below 0, and else taken off: of what was joined of
// numbers that are at most p either way comes such a one again.
func (a wide) divided() wide {
	m := modulus()
	k := int64(a[0] * mont.Neg(m[0]) % (1 << steps))
	if !a.negative() {
		k -= 1 << steps
	}
	return a.plus(widen(m), k).down()
}
