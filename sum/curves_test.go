package sum_test

import (
	"math/big"
	"math/rand"
	"slices"
	"testing"

	"chirograph/api"
	"chirograph/duo"
	"chirograph/fp"
	"chirograph/one"
	"chirograph/sum"
	"chirograph/two"
)

// prime and order are p and r, read from the chapters' own digits.
var (
	prime = hex("1A0111EA397FE69A4B1BA7B6434BACD764774B84F38512BF6730D2A0F6B0F6241EABFFFEB153FFFFB9FEFFFFFFFFAAAB")
	order = hex("73EDA753299D7D483339D80809A1D80553BDA402FFFE5BFEFFFFFFFF00000001")
)

func hex(digits string) *big.Int {
	n, _ := new(big.Int).SetString(digits, 16)
	return n
}

func plus(n *big.Int, d int64) *big.Int { return new(big.Int).Add(n, big.NewInt(d)) }

func twoTo(n uint) *big.Int { return new(big.Int).Lsh(big.NewInt(1), n) }

// most is the number whose n bits are all 1.
func most(n uint) *big.Int { return plus(twoTo(n), -1) }

// limbs writes n, which must fit, into limbs, the lowest first.
func limbs(n *big.Int, out []uint64) {
	for i, x := range n.FillBytes(make([]byte, 8*len(out))) {
		place := len(out) - 1 - i/8
		out[place] = out[place]<<8 | uint64(x)
	}
}

func often(n *big.Int) api.Fr {
	var k api.Fr
	limbs(n, k[:])
	return k
}

// beyond is an element with p added to it: the same modulo p, but not as it is.
func beyond(a api.Fp) api.Fp {
	n := new(big.Int)
	for i := range a {
		n.Lsh(n, 64).Or(n, new(big.Int).SetUint64(a[len(a)-1-i]))
	}
	limbs(n.Add(n, prime), a[:])
	return a
}

// curve is what the tests try of either curve.
type curve[P comparable] struct {
	sum       func([]P, []api.Fr) (P, api.Errno)
	add       func(a, b P) (P, api.Errno)
	neg       func(a P) (P, api.Errno)
	mul       func(a P, k api.Fr) (P, api.Errno)
	zero, gen P
	ungrouped []P // points of the curve that are not of the group
	wrong     []P // points that may not be
}

func first() curve[api.G1] {
	g := one.Gen()
	return curve[api.G1]{
		sum: sum.Sum1, add: one.Add, neg: one.Neg, mul: one.Mul, zero: one.Zero(), gen: g, ungrouped: ungrouped1(),
		wrong: []api.G1{
			{}, {X: g.X}, {Y: g.Y}, {X: g.Y, Y: g.X}, {X: g.X, Y: fp.Add(g.Y, api.Fp{1})}, {Y: api.Fp{3}},
			{X: beyond(g.X), Y: g.Y}, {X: g.X, Y: beyond(g.Y)}, {X: beyond(api.Fp{}), Y: api.Fp{2}},
			{X: g.X, Y: g.Y, Inf: true}, {X: api.Fp{1}, Inf: true}, {Y: api.Fp{2}, Inf: true}, {X: beyond(api.Fp{}), Inf: true},
		},
	}
}

func second() curve[api.G2] {
	g := two.Gen()
	x, y := g.X, g.Y
	x.B, y.A = beyond(x.B), beyond(y.A)
	return curve[api.G2]{
		sum: sum.Sum2, add: two.Add, neg: two.Neg, mul: two.Mul, zero: two.Zero(), gen: g, ungrouped: ungrouped2(),
		wrong: []api.G2{
			{}, {X: g.X}, {Y: g.Y}, {X: g.Y, Y: g.X}, {X: g.X, Y: duo.Conj(g.Y)}, {X: api.Fp2{A: api.Fp{1}}, Y: api.Fp2{A: api.Fp{1}}},
			{X: x, Y: g.Y}, {X: g.X, Y: y},
			{X: g.X, Y: g.Y, Inf: true}, {X: api.Fp2{B: api.Fp{1}}, Inf: true}, {Y: api.Fp2{B: beyond(api.Fp{})}, Inf: true},
		},
	}
}

// ungrouped1 are points with small Xs, the first of which is of order 3, and sums of
// these and the generator.
func ungrouped1() []api.G1 {
	var all []api.G1
	for x := uint64(0); len(all) < 4; x++ {
		if y, why := fp.Root(fp.Add(api.Fp{x * x * x}, api.Fp{4})); why == api.OK {
			all = append(all, api.G1{X: api.Fp{x}, Y: y})
		}
	}
	for _, a := range slices.Clone(all) {
		more, _ := one.Add(a, one.Gen())
		all = append(all, more)
	}
	return all
}

func ungrouped2() []api.G2 {
	var all []api.G2
	for n := uint64(0); len(all) < 4; n++ {
		x := api.Fp2{A: api.Fp{n % 3}, B: api.Fp{n / 3}}
		yy := duo.Add(duo.Mul(duo.Mul(x, x), x), api.Fp2{A: api.Fp{4}, B: api.Fp{4}})
		if y, why := duo.Root(yy); why == api.OK {
			all = append(all, api.G2{X: x, Y: y})
		}
	}
	for _, a := range slices.Clone(all) {
		more, _ := two.Add(a, two.Gen())
		all = append(all, more)
	}
	return all
}

// forBoth runs a test for either curve.
func forBoth(t *testing.T, test1 func(*testing.T, curve[api.G1]), test2 func(*testing.T, curve[api.G2])) {
	t.Parallel()
	t.Run("one", func(t *testing.T) { t.Parallel(); test1(t, first()) })
	t.Run("two", func(t *testing.T) { t.Parallel(); test2(t, second()) })
}

// sure is what a call answers that is right.
func sure[P any](a P, why api.Errno) P {
	if why != api.OK {
		panic(why)
	}
	return a
}

// inTurn is the sum in the chapter's own words: one point after the other.
func (c curve[P]) inTurn(points []P, ks []api.Fr) P {
	all := c.zero
	for i, a := range points {
		all = sure(c.add(all, sure(c.mul(a, ks[i]))))
	}
	return all
}

// row is points of the group, each a step beyond the one before, and how often each
// one has the generator.
func (c curve[P]) row(s *rand.Rand, many int) ([]P, []*big.Int) {
	x, step := new(big.Int).Rand(s, order), new(big.Int).Rand(s, order)
	a, by := sure(c.mul(c.gen, often(x))), sure(c.mul(c.gen, often(step)))
	var points []P
	var times []*big.Int
	for range many {
		points, times = append(points, a), append(times, x)
		a, x = sure(c.add(a, by)), new(big.Int).Add(x, step)
	}
	return points, times
}

// told is the sum of a row, told by how often it has the generator.
func (c curve[P]) told(times []*big.Int, ks []*big.Int) P {
	all := new(big.Int)
	for i, x := range times {
		all.Add(all, new(big.Int).Mul(x, ks[i]))
	}
	return sure(c.mul(c.gen, often(all.Mod(all, order))))
}

func (c curve[P]) expect(t *testing.T, name string, points []P, ks []api.Fr, want P) {
	t.Helper()
	if got, why := c.sum(points, ks); why != api.OK || got != want {
		t.Errorf("%s: the sum of %d points is %v, %d, not %v", name, len(points), got, why, want)
	}
}

func (c curve[P]) expectError(t *testing.T, name string, points []P, ks []api.Fr, want api.Errno) {
	t.Helper()
	if got, why := c.sum(points, ks); why != want || got != *new(P) {
		t.Errorf("%s: the sum of %d points and %d numbers is %v, %d, not %d", name, len(points), len(ks), got, why, want)
	}
}

// edges are numbers at and beside 0, r, its half, the limbs' ends, and 2^256.
func edges() []*big.Int {
	all := []*big.Int{big.NewInt(0), big.NewInt(1), big.NewInt(2), big.NewInt(3), big.NewInt(4)}
	for _, n := range []*big.Int{order, new(big.Int).Rsh(order, 1), new(big.Int).Lsh(order, 1), twoTo(64), twoTo(128), twoTo(192), twoTo(255)} {
		all = append(all, plus(n, -1), n, plus(n, 1))
	}
	return append(all, most(256), plus(most(256), -1), hex("8421084210842108421084210842108421084210842108421084210842108421"))
}

// amounts are that many numbers of 256 bits, the edges among them.
func amounts(s *rand.Rand, many int) []*big.Int {
	all := edges()
	s.Shuffle(len(all), func(i, j int) { all[i], all[j] = all[j], all[i] })
	all = all[:min(len(all), many/2)]
	for len(all) < many {
		all = append(all, new(big.Int).Rand(s, twoTo(256)))
	}
	s.Shuffle(len(all), func(i, j int) { all[i], all[j] = all[j], all[i] })
	return all
}

func numbers(ks []*big.Int) []api.Fr {
	var all []api.Fr
	for _, k := range ks {
		all = append(all, often(k))
	}
	return all
}
