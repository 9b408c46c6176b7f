package sext

import (
	"chirograph/api"
	"chirograph/duo"
)

// parts are an element's three by their places: all is handed their methods as
// method values, that tell of a place what comes there.
type parts [3]api.Fp2

func row(a api.Fp6) parts { return parts{a.A, a.B, a.C} }

func (x parts) clean(place int) api.Fp2 { return duo.Clean(x[place]) }

func (x parts) negative(place int) api.Fp2 { return duo.Neg(x[place]) }

// couple are the parts of two elements.
type couple struct{ x, y parts }

func beside(a, b api.Fp6) couple { return couple{x: row(a), y: row(b)} }

func (c couple) sum(place int) api.Fp2 { return duo.Add(c.x[place], c.y[place]) }

func (c couple) difference(place int) api.Fp2 { return duo.Sub(c.x[place], c.y[place]) }

func (c couple) product(place int) api.Fp2 { return duo.Mul(c.x[place], c.y[place]) }

// all answers what is told of each place.
func all(tell func(place int) api.Fp2) api.Fp6 {
	return api.Fp6{A: tell(0), B: tell(1), C: tell(2)}
}

// scale is all parts times an element of duo.
func scale(a api.Fp6, k api.Fp2) api.Fp6 {
	return all(beside(a, api.Fp6{A: k, B: k, C: k}).product)
}

// wrap is x times u + 1, which v v v is. As u times x is (-B, A), the negative of
// Conj of (B, A), no product is needed.
func wrap(x api.Fp2) api.Fp2 {
	return duo.Sub(x, duo.Conj(api.Fp2{A: x.B, B: x.A}))
}

// cofactor is the product of what a becomes with each of the other two cube
// roots of u + 1 in the place of v: times a, it has B and C 0.
func cofactor(a api.Fp6) api.Fp6 {
	return api.Fp6{
		A: duo.Sub(duo.Mul(a.A, a.A), wrap(duo.Mul(a.B, a.C))),
		B: duo.Sub(wrap(duo.Mul(a.C, a.C)), duo.Mul(a.A, a.B)),
		C: duo.Sub(duo.Mul(a.B, a.B), duo.Mul(a.A, a.C)),
	}
}

// norm is the A of a times its cofactor.
func norm(a, others api.Fp6) api.Fp2 {
	above := duo.Add(duo.Mul(a.B, others.C), duo.Mul(a.C, others.B))
	return duo.Add(duo.Mul(a.A, others.A), wrap(above))
}
