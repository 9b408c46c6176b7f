package full

import (
	"chirograph/api"
	"chirograph/sext"
)

// scale is both parts times an element of sext.
func scale(a api.Fp12, k api.Fp6) api.Fp12 {
	return api.Fp12{A: sext.Mul(a.A, k), B: sext.Mul(a.B, k)}
}

// norm is A A - v B B: the product with Conj, whose B is 0.
func norm(a api.Fp12) api.Fp6 {
	return sext.Sub(sext.Mul(a.A, a.A), sext.Shift(sext.Mul(a.B, a.B)))
}
