package fr

import (
	"chirograph/api"
	"chirograph/mont"
	"chirograph/nat"
)

// width is how many bytes an element has.
const width = 8 * api.FrLimbs

// order is r.
func order() api.Fr {
	return api.Fr{0xFFFFFFFF00000001, 0x53BDA402FFFE5BFE, 0x3339D80809A1D805, 0x73EDA753299D7D48}
}

// square is 2^256 times 2^256, modulo r.
func square() api.Fr {
	return api.Fr{0xC999E990F3F29C6D, 0x2B6CEDCB87925C23, 0x05D314967254398F, 0x0748D9D99F59FF11}
}

// number is the number of a row of four limbs.
func number(row []uint64) api.Fr {
	var a api.Fr
	copy(a[:], row)
	return a
}

func lessOrder(a api.Fr) api.Fr {
	m := order()
	less, _ := nat.Sub(a[:], m[:])
	return number(less)
}

// moveUp is an element times 2^256: what mont brings in is just that.
func moveUp(a api.Fr) api.Fr {
	m := order()
	moved, _ := mont.Into(a[:], m[:])
	return number(moved)
}

// read is the number of 32 bytes, which need not be below r.
func read(s string) api.Fr {
	row, _ := nat.Get(s)
	return number(row)
}

// element has as methods what is done with each of many: each and running are
// handed them as method expressions.
type element api.Fr

func (a element) clean() element { return element(Clean(api.Fr(a))) }

// factor is a itself, but 1 of 0: a 0 among many would make their product 0.
func (a element) factor() element {
	if a == (element{}) {
		return element{1}
	}
	return a
}

func (a element) times(b element) element { return element(Mul(api.Fr(a), api.Fr(b))) }

func (a element) inverse() element { return element(Inv(api.Fr(a))) }

// limbs lets each take numbers as they are handed in, and answer elements.
type limbs interface{ ~[api.FrLimbs]uint64 }

// each answers, in order, what is made of each number.
func each[A, B limbs](l []A, do func(B) B) []B {
	out := make([]B, len(l))
	for i, a := range l {
		out[i] = do(B(a))
	}
	return out
}

// running answers what comes of joining, from the start on, none of the list,
// its first, its first two, and so on to all of it.
func running[A any](start A, l []A, join func(A, A) A) []A {
	out := make([]A, 0, len(l)+1)
	out = append(out, start)
	for i, a := range l {
		out = append(out, join(out[i], a))
	}
	return out
}
