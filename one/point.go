package one

import (
	"math/bits"

	"chirograph/api"
	"chirograph/fp"
)

// point is X / z and Y / z, so that sums need no division; at infinity z is 0.
// All three may be multiplied by any element but 0.
type point struct{ x, y, z api.Fp }

func nowhere() point { return point{y: api.Fp{1}} }

func bring(a api.G1) point {
	if a.Inf {
		return nowhere()
	}
	return point{x: a.X, y: a.Y, z: api.Fp{1}}
}

func (a point) back() api.G1 {
	if a.z == (api.Fp{}) {
		return Zero()
	}
	under := fp.Inv(a.z)
	return api.G1{X: fp.Mul(a.x, under), Y: fp.Mul(a.y, under)}
}

// joined brings two points in, joins them, and brings what comes of it back.
func joined(a, b api.G1, join func(a, b point) point) (api.G1, api.Errno) {
	if !Right(a) || !Right(b) {
		return api.G1{}, api.ErrCurve
	}
	return join(bring(a), bring(b)).back(), api.OK
}

// plus is the sum of any two points: also of one and itself, of one and its
// negative, and with that at infinity. The formulas, those of Renes, Costello
// and Batina, break down only for two points whose difference has the Y 0: there
// is none, as -4 is no third power in fp. (12 is three times the curve's 4.)
func (a point) plus(b point) point {
	threeXX, yy := threefold(fp.Mul(a.x, b.x)), fp.Mul(a.y, b.y)
	zz := fp.Mul(api.Fp{12}, fp.Mul(a.z, b.z))
	xz := fp.Mul(api.Fp{12}, crossed(a.x, a.z, b.x, b.z))
	xy, yz := crossed(a.x, a.y, b.x, b.y), crossed(a.y, a.z, b.y, b.z)
	less, more := fp.Sub(yy, zz), fp.Add(yy, zz)
	return point{
		x: fp.Sub(fp.Mul(xy, less), fp.Mul(yz, xz)),
		y: fp.Add(fp.Mul(more, less), fp.Mul(threeXX, xz)),
		z: fp.Add(fp.Mul(yz, more), fp.Mul(threeXX, xy)),
	}
}

// twice is the sum of a point and itself: plus, with the products that fall
// together then, and with X X X z taken from the curve.
func (a point) twice() point {
	yy, zz := fp.Mul(a.y, a.y), fp.Mul(api.Fp{12}, fp.Mul(a.z, a.z))
	less, more := fp.Sub(yy, threefold(zz)), fp.Add(yy, zz)
	eightYY := fp.Mul(api.Fp{8}, yy)
	return point{
		x: fp.Mul(twofold(fp.Mul(a.x, a.y)), less),
		y: fp.Add(fp.Mul(more, less), fp.Mul(eightYY, zz)),
		z: fp.Mul(eightYY, fp.Mul(a.y, a.z)),
	}
}

// times is the sum of a point as often as a number says. Doubling goes from the
// number's highest bit down: a small number takes few steps.
func (a point) times(k api.Fr) point {
	sum := nowhere()
	for i := length(k) - 1; i >= 0; i-- {
		sum = sum.twice()
		if k[i/64]>>(i%64)&1 == 1 {
			sum = sum.plus(a)
		}
	}
	return sum
}

// length is how many bits a number has, up to its highest 1.
func length(k api.Fr) int {
	for i := len(k) - 1; i >= 0; i-- {
		if k[i] != 0 {
			return 64*i + bits.Len64(k[i])
		}
	}
	return 0
}
