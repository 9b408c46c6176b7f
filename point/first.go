package point

import (
	"chirograph/api"
	"chirograph/fp"
	"chirograph/one"
)

const size1 = 8 * api.FpLimbs

func first() curve[api.Fp, api.G1] {
	return curve[api.Fp, api.G1]{
		size:     size1,
		write:    fp.Put,
		read:     fp.Get,
		high:     fp.High,
		negative: fp.Neg,
		level:    level1,
		zero:     one.Zero,
		made:     func(x, y api.Fp) api.G1 { return api.G1{X: x, Y: y} },
		parts:    func(a api.G1) (x, y api.Fp, infinite bool) { return a.X, a.Y, a.Inf },
		right:    one.Right,
		group:    one.Group,
	}
}

// level1 is the root of X X X + 4 that is not high.
func level1(x api.Fp) (api.Fp, api.Errno) {
	y, why := fp.Root(fp.Add(fp.Mul(fp.Mul(x, x), x), api.Fp{4}))
	if why != api.OK {
		return api.Fp{}, api.ErrCurve
	}
	return y, api.OK
}
