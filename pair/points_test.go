package pair_test

import (
	"math/big"
	"slices"

	"chirograph/api"
	"chirograph/duo"
	"chirograph/fp"
	"chirograph/one"
	"chirograph/two"
)

// sure is what a call answers that is right.
func sure[P any](a P, why api.Errno) P {
	if why != api.OK {
		panic(why)
	}
	return a
}

// curve is what the tests need of either curve.
type curve[P comparable] struct {
	add       func(a, b P) (P, api.Errno)
	mul       func(a P, k api.Fr) (P, api.Errno)
	zero, gen P
	strays    []P      // points with small Xs, none of which is of the group
	cofactor  *big.Int // how many points the curve has, divided by r
}

func first() curve[api.G1] {
	c := curve[api.G1]{add: one.Add, mul: one.Mul, zero: one.Zero(), gen: one.Gen()}
	c.cofactor = plus(parameter, 1)
	c.cofactor.Div(c.cofactor.Mul(c.cofactor, c.cofactor), big.NewInt(3))
	for x := uint64(0); len(c.strays) < 8; x++ {
		if y, why := fp.Root(fp.Add(api.Fp{x * x * x}, api.Fp{4})); why == api.OK {
			c.strays = append(c.strays, api.G1{X: api.Fp{x}, Y: y})
		}
	}
	return c
}

func second() curve[api.G2] {
	c := curve[api.G2]{add: two.Add, mul: two.Mul, zero: two.Zero(), gen: two.Gen()}
	c.cofactor = hex("5D543A95414E7F1091D50792876A202CD91DE4547085ABAA68A205B2E5A7DDFA628F1CB4D9E82EF21537E293A6691AE1616EC6E786F0C70CF1C38E31C7238E5")
	for n := uint64(0); len(c.strays) < 8; n++ {
		x := api.Fp2{A: api.Fp{n % 3}, B: api.Fp{n / 3}}
		yy := duo.Add(duo.Mul(duo.Mul(x, x), x), api.Fp2{A: api.Fp{4}, B: api.Fp{4}})
		if y, why := duo.Root(yy); why == api.OK {
			c.strays = append(c.strays, api.G2{X: x, Y: y})
		}
	}
	return c
}

// times is a point as often as any number says.
func (c curve[P]) times(a P, k *big.Int) P {
	sum := c.zero
	for _, digit := range k.Bytes() {
		sum = sure(c.add(sure(c.mul(sum, api.Fr{256})), sure(c.mul(a, api.Fr{uint64(digit)}))))
	}
	return sum
}

// ofOrder is a point whose order is that prime, which divides the cofactor.
func (c curve[P]) ofOrder(n int64) P {
	prime, others := big.NewInt(n), new(big.Int).Mul(c.cofactor, order)
	for new(big.Int).Rem(others, prime).Sign() == 0 {
		others.Div(others, prime)
	}
	for _, a := range c.strays {
		a = c.times(a, others)
		for a != c.zero && c.times(a, prime) != c.zero {
			a = c.times(a, prime)
		}
		if a != c.zero {
			return a
		}
	}
	panic("no point of that order")
}

// ungrouped are points of the curve that are not of the group: also such of small
// orders, and sums of these and the generator.
func (c curve[P]) ungrouped(orders ...int64) []P {
	all := slices.Clone(c.strays[:3])
	for _, n := range orders {
		all = append(all, c.ofOrder(n))
	}
	for _, a := range slices.Clone(all) {
		all = append(all, sure(c.add(a, c.gen)))
	}
	return all
}

func ungrouped1() []api.G1 { return first().ungrouped(3, 11, 10177) }

func ungrouped2() []api.G2 { return second().ungrouped(13, 23, 2713) }

// beyond is an element with p added to it: the same modulo p, but not as it is.
func beyond(a api.Fp) api.Fp { return whole(new(big.Int).Add(value(a), prime)) }

// wrong1 and wrong2 are points that may not be.
func wrong1() []api.G1 {
	g := one.Gen()
	return []api.G1{
		{}, {X: g.X}, {Y: g.Y}, {X: g.Y, Y: g.X}, {X: g.X, Y: fp.Add(g.Y, api.Fp{1})}, {Y: api.Fp{3}},
		{X: beyond(g.X), Y: g.Y}, {X: g.X, Y: beyond(g.Y)}, {X: beyond(api.Fp{}), Y: api.Fp{2}},
		{X: g.X, Y: g.Y, Inf: true}, {X: api.Fp{1}, Inf: true}, {Y: api.Fp{2}, Inf: true}, {X: beyond(api.Fp{}), Inf: true},
	}
}

func wrong2() []api.G2 {
	g := two.Gen()
	x, y := g.X, g.Y
	x.B, y.A = beyond(x.B), beyond(y.A)
	return []api.G2{
		{}, {X: g.X}, {Y: g.Y}, {X: g.Y, Y: g.X}, {X: g.X, Y: duo.Conj(g.Y)}, {X: api.Fp2{A: api.Fp{1}}, Y: api.Fp2{A: api.Fp{1}}},
		{X: x, Y: g.Y}, {X: g.X, Y: y},
		{X: g.X, Y: g.Y, Inf: true}, {X: api.Fp2{B: api.Fp{1}}, Inf: true}, {Y: api.Fp2{B: beyond(api.Fp{})}, Inf: true},
	}
}

// g1 and g2 are the generators, as often as a number says.
func g1(k *big.Int) api.G1 { return sure(one.Mul(one.Gen(), often(k))) }

func g2(k *big.Int) api.G2 { return sure(two.Mul(two.Gen(), often(k))) }

func small1(k int64) api.G1 { return g1(big.NewInt(k)) }

func small2(k int64) api.G2 { return g2(big.NewInt(k)) }
