package duo

import (
	"chirograph/api"
	"chirograph/fp"
)

// part is one of both parts, an element of fp: both and pairwise are handed its
// methods as method expressions.
type part api.Fp

func (x part) clean() part { return part(fp.Clean(api.Fp(x))) }

func (x part) negative() part { return part(fp.Neg(api.Fp(x))) }

func (x part) plus(y part) part { return part(fp.Add(api.Fp(x), api.Fp(y))) }

func (x part) minus(y part) part { return part(fp.Sub(api.Fp(x), api.Fp(y))) }

func (x part) times(y part) part { return part(fp.Mul(api.Fp(x), api.Fp(y))) }

// both answers what is made of each part.
func both(a api.Fp2, do func(part) part) api.Fp2 {
	return api.Fp2{A: api.Fp(do(part(a.A))), B: api.Fp(do(part(a.B)))}
}

// pairwise answers what is made of the two As and of the two Bs.
func pairwise(a, b api.Fp2, do func(x, y part) part) api.Fp2 {
	return api.Fp2{
		A: api.Fp(do(part(a.A), part(b.A))),
		B: api.Fp(do(part(a.B), part(b.B))),
	}
}

// scale is both parts times a number.
func scale(a api.Fp2, k api.Fp) api.Fp2 {
	return pairwise(a, api.Fp2{A: k, B: k}, part.times)
}

// norm is A A + B B: the product with Conj, whose B is 0.
func norm(a api.Fp2) api.Fp {
	return fp.Add(fp.Mul(a.A, a.A), fp.Mul(a.B, a.B))
}

// plainRoot is a root of a number of fp. That p leaves 3, divided by 4, makes -1
// no square there: either the number or its negative is one, and u times the
// negative's root is a root, too.
func plainRoot(x api.Fp) api.Fp2 {
	if root, why := fp.Root(x); why == api.OK {
		return api.Fp2{A: root}
	}
	root, _ := fp.Root(fp.Neg(x))
	return api.Fp2{B: root}
}

// mixedRoot is a root of an element whose B is not 0.
//
// With s that is a root of the norm the square of a + s is a times 2 (A + s):
// a + s is to be divided by a root of 2 (A + s). The product of A + s and A - s
// is -B B, which is no square: just one of them, doubled, is one.
func mixedRoot(a api.Fp2) (api.Fp2, api.Errno) {
	s, why := fp.Root(norm(a))
	if why != api.OK {
		return api.Fp2{}, why
	}
	lifted := fp.Add(a.A, s)
	under, why := fp.Root(fp.Add(lifted, lifted))
	if why != api.OK {
		lifted = fp.Sub(a.A, s)
		under, _ = fp.Root(fp.Add(lifted, lifted))
	}
	return scale(api.Fp2{A: lifted, B: a.B}, fp.Inv(under)), api.OK
}
