package one

import (
	"chirograph/api"
	"chirograph/fp"
)

// order is r.
func order() api.Fr {
	return api.Fr{0xFFFFFFFF00000001, 0x53BDA402FFFE5BFE, 0x3339D80809A1D805, 0x73EDA753299D7D48}
}

// meets tells whether Y Y is X X X + 4.
func meets(x, y api.Fp) bool {
	cube := fp.Mul(fp.Mul(x, x), x)
	return fp.Mul(y, y) == fp.Add(cube, api.Fp{4})
}

// twofold and threefold are sums, as a sum takes less than a product.
func twofold(x api.Fp) api.Fp { return fp.Add(x, x) }

func threefold(x api.Fp) api.Fp { return fp.Add(twofold(x), x) }

// crossed is x1 y2 + y1 x2.
func crossed(x1, y1, x2, y2 api.Fp) api.Fp {
	return fp.Add(fp.Mul(x1, y2), fp.Mul(y1, x2))
}
