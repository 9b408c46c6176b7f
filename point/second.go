package point

import (
	"chirograph/api"
	"chirograph/duo"
	"chirograph/fp"
	"chirograph/two"
)

const size2 = 2 * size1

func second() curve[api.Fp2, api.G2] {
	return curve[api.Fp2, api.G2]{
		size:     size2,
		write:    write2,
		read:     read2,
		high:     duo.High,
		negative: duo.Neg,
		level:    level2,
		zero:     two.Zero,
		made:     func(x, y api.Fp2) api.G2 { return api.G2{X: x, Y: y} },
		parts:    func(a api.G2) (x, y api.Fp2, infinite bool) { return a.X, a.Y, a.Inf },
		right:    two.Right,
		group:    two.Group,
	}
}

func write2(x api.Fp2) string { return fp.Put(x.B) + fp.Put(x.A) }

func read2(s string) (api.Fp2, api.Errno) {
	var x api.Fp2
	take := steps()
	take(func() (why api.Errno) { x.B, why = fp.Get(s[:size1]); return why })
	why := take(func() (why api.Errno) { x.A, why = fp.Get(s[size1:]); return why })
	return x, why
}

// level2 is the root of X X X + 4 + 4 u that is not high.
func level2(x api.Fp2) (api.Fp2, api.Errno) {
	four := api.Fp2{A: api.Fp{4}, B: api.Fp{4}}
	y, why := duo.Root(duo.Add(duo.Mul(duo.Mul(x, x), x), four))
	if why != api.OK {
		return api.Fp2{}, api.ErrCurve
	}
	return y, api.OK
}
