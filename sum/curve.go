package sum

import (
	"chirograph/api"
	"chirograph/one"
	"chirograph/two"
)

// point is one of either curve.
type point interface{ api.G1 | api.G2 }

// curve is what is done with the points P of one curve.
type curve[P point] struct {
	right func(a P) bool
	zero  func() P
	add   func(a, b P) (P, api.Errno)
	mul   func(a P, k api.Fr) (P, api.Errno)
	few   int // of fewer points than these the sum takes longer by buckets than one by one
}

func first() curve[api.G1] {
	return curve[api.G1]{right: one.Right, zero: one.Zero, add: one.Add, mul: one.Mul, few: 32}
}

func second() curve[api.G2] {
	return curve[api.G2]{right: two.Right, zero: two.Zero, add: two.Add, mul: two.Mul, few: 12}
}

// sum is Sum1, or Sum2.
func (c curve[P]) sum(points []P, ks []api.Fr) (P, api.Errno) {
	var none P
	if len(points) != len(ks) {
		return none, api.ErrLen
	}
	if len(points) > api.MaxPoints {
		return none, api.ErrLong
	}
	for _, a := range points {
		if !c.right(a) {
			return none, api.ErrCurve
		}
	}
	if len(points) < c.few {
		return c.oneByOne(points, ks), api.OK
	}
	return c.byPlaces(points, ks), api.OK
}

// plus and times are of points that may be: no error comes of them. A point at
// infinity, as most buckets are at first, needs no sum.
func (c curve[P]) plus(a, b P) P {
	if a == c.zero() {
		return b
	}
	if b == c.zero() {
		return a
	}
	sum, _ := c.add(a, b)
	return sum
}

func (c curve[P]) times(a P, k api.Fr) P {
	product, _ := c.mul(a, k)
	return product
}

func (c curve[P]) oneByOne(points []P, ks []api.Fr) P {
	sum := c.zero()
	for i, a := range points {
		sum = c.plus(sum, c.times(a, ks[i]))
	}
	return sum
}

// byPlaces goes through the numbers' digits, the highest place first: what came of
// those above is taken as often as a digit has values, and the points are added as
// often as their digits say.
func (c curve[P]) byPlaces(points []P, ks []api.Fr) P {
	width := digitWidth(len(points))
	digits := make([]int, len(ks))
	b := newBuckets(c, width)
	sum := c.zero()
	for place := places(ks, width) - 1; place >= 0; place-- {
		readDigits(digits, ks, place*width, width)
		b.empty()
		fill(b, points, digits)
		sum = c.plus(c.times(sum, api.Fr{1 << width}), b.total())
	}
	return sum
}
