package two

import (
	"chirograph/api"
	"chirograph/duo"
)

// order is r.
func order() api.Fr {
	return api.Fr{0xFFFFFFFF00000001, 0x53BDA402FFFE5BFE, 0x3339D80809A1D805, 0x73EDA753299D7D48}
}

func one() api.Fp2 { return api.Fp2{A: api.Fp{1}} }

// alike has the same small number in both parts, as the curve's 4 + 4 u.
func alike(n uint64) api.Fp2 { return api.Fp2{A: api.Fp{n}, B: api.Fp{n}} }

// below tells whether both parts are below p: then cleaning leaves them as they are.
func below(x api.Fp2) bool { return duo.Clean(x) == x }

// meets tells whether Y Y is X X X + 4 + 4 u.
func meets(x, y api.Fp2) bool {
	cube := duo.Mul(duo.Mul(x, x), x)
	return duo.Mul(y, y) == duo.Add(cube, alike(4))
}

// twofold, threefold and eightfold are sums, as a sum takes less than a product.
func twofold(x api.Fp2) api.Fp2 { return duo.Add(x, x) }

func threefold(x api.Fp2) api.Fp2 { return duo.Add(twofold(x), x) }

func eightfold(x api.Fp2) api.Fp2 { return twofold(twofold(twofold(x))) }

// crossed is x1 y2 + y1 x2.
func crossed(x1, y1, x2, y2 api.Fp2) api.Fp2 {
	return duo.Add(duo.Mul(x1, y2), duo.Mul(y1, x2))
}
