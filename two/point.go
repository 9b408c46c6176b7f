package two

import (
	"math/bits"

	"chirograph/api"
	"chirograph/duo"
)

// point is X / z and Y / z, so that sums need no division; at infinity z is 0.
// All three may be multiplied by any element but 0.
type point struct{ x, y, z api.Fp2 }

func nowhere() point { return point{y: one()} }

func bring(a api.G2) point {
	if a.Inf {
		return nowhere()
	}
	return point{x: a.X, y: a.Y, z: one()}
}

func (a point) back() api.G2 {
	if a.z == (api.Fp2{}) {
		return Zero()
	}
	under := duo.Inv(a.z)
	return api.G2{X: duo.Mul(a.x, under), Y: duo.Mul(a.y, under)}
}

// joined brings two points in, joins them, and brings what comes of it back.
func joined(a, b api.G2, join func(a, b point) point) (api.G2, api.Errno) {
	if !Right(a) || !Right(b) {
		return api.G2{}, api.ErrCurve
	}
	return join(bring(a), bring(b)).back(), api.OK
}

// plus is the sum of any two points: also of one and itself, of one and its
// negative, and with that at infinity. The formulas, those of Renes, Costello
// and Batina, break down only for two points whose difference has the Y 0: there
// is none, as -4 - 4 u is no third power in duo. (12 + 12 u is three times the
// curve's 4 + 4 u.)
func (a point) plus(b point) point {
	threeXX, yy := threefold(duo.Mul(a.x, b.x)), duo.Mul(a.y, b.y)
	zz := duo.Mul(alike(12), duo.Mul(a.z, b.z))
	xz := duo.Mul(alike(12), crossed(a.x, a.z, b.x, b.z))
	xy, yz := crossed(a.x, a.y, b.x, b.y), crossed(a.y, a.z, b.y, b.z)
	less, more := duo.Sub(yy, zz), duo.Add(yy, zz)
	return point{
		x: duo.Sub(duo.Mul(xy, less), duo.Mul(yz, xz)),
		y: duo.Add(duo.Mul(more, less), duo.Mul(threeXX, xz)),
		z: duo.Add(duo.Mul(yz, more), duo.Mul(threeXX, xy)),
	}
}

// twice is the sum of a point and itself: plus, with the products that fall
// together then, and with X X X z taken from the curve.
func (a point) twice() point {
	yy, zz := duo.Mul(a.y, a.y), duo.Mul(alike(12), duo.Mul(a.z, a.z))
	less, more := duo.Sub(yy, threefold(zz)), duo.Add(yy, zz)
	eightYY := eightfold(yy)
	return point{
		x: duo.Mul(twofold(duo.Mul(a.x, a.y)), less),
		y: duo.Add(duo.Mul(more, less), duo.Mul(eightYY, zz)),
		z: duo.Mul(eightYY, duo.Mul(a.y, a.z)),
	}
}

// times is the sum of a point as often as a number says. Doubling goes from the
// number's highest bit down: a small number takes few steps.
func (a point) times(k api.Fr) point {
	sum := nowhere()
	for i := length(k) - 1; i >= 0; i-- {
		sum = sum.twice()
		if k[i/64]>>(i%64)&1 == 1 {
			sum = sum.plus(a)
		}
	}
	return sum
}

// length is how many bits a number has, up to its highest 1.
func length(k api.Fr) int {
	for i := len(k) - 1; i >= 0; i-- {
		if k[i] != 0 {
			return 64*i + bits.Len64(k[i])
		}
	}
	return 0
}
