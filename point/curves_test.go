package point_test

import (
	"math/big"
	"math/rand"
	"slices"

	"chirograph/api"
	"chirograph/duo"
	"chirograph/fp"
	"chirograph/one"
	"chirograph/point"
	"chirograph/two"
)

// curve is what the tests try of either curve.
type curve[P comparable] struct {
	parts     int // of a coordinate
	put, wide func(P) (string, api.Errno)
	get       func(string) (P, api.Errno)
	at        func(spot) P
	grouped   []spot       // points of the group: first that at infinity, then the generator
	ungrouped []spot       // other points of the curve
	lost      [][]*big.Int // Xs of no point
	nowhere   []spot       // elements X and Y that meet no point
	wrong     []P          // points that may not be
}

func first() curve[api.G1] {
	grouped, ungrouped := spots(grouped1(), spot1), spots(ungrouped1(), spot1)
	lost := lost1()
	nowhere := nowhereNear(grouped[1], ungrouped[0], lost)
	return curve[api.G1]{
		parts: 1, put: point.Put1, wide: point.Wide1, get: point.Get1, at: at1,
		grouped: grouped, ungrouped: ungrouped, lost: lost, nowhere: nowhere,
		wrong: wrongs(at1, nowhere, slices.Concat(ungrouped, grouped[1:]), infinite1),
	}
}

func second() curve[api.G2] {
	grouped, ungrouped := spots(grouped2(), spot2), spots(ungrouped2(), spot2)
	lost := lost2()
	nowhere := append(nowhereNear(grouped[1], ungrouped[0], lost), swapped(grouped[1])...)
	return curve[api.G2]{
		parts: 2, put: point.Put2, wide: point.Wide2, get: point.Get2, at: at2,
		grouped: grouped, ungrouped: ungrouped, lost: lost, nowhere: nowhere,
		wrong: wrongs(at2, nowhere, slices.Concat(ungrouped, grouped[1:]), infinite2),
	}
}

func at1(s spot) api.G1 {
	if len(s) == 0 {
		return api.G1{Inf: true}
	}
	return api.G1{X: whole(s[0]), Y: whole(s[1])}
}

func at2(s spot) api.G2 {
	if len(s) == 0 {
		return api.G2{Inf: true}
	}
	return api.G2{X: api.Fp2{A: whole(s[1]), B: whole(s[0])}, Y: api.Fp2{A: whole(s[3]), B: whole(s[2])}}
}

func spot1(a api.G1) spot {
	if a.Inf {
		return nil
	}
	return spot{value(a.X), value(a.Y)}
}

func spot2(a api.G2) spot {
	if a.Inf {
		return nil
	}
	return spot{value(a.X.B), value(a.X.A), value(a.Y.B), value(a.Y.A)}
}

func spots[P any](all []P, from func(P) spot) []spot {
	var out []spot
	for _, a := range all {
		out = append(out, from(a))
	}
	return out
}

func infinite1(a api.G1) api.G1 { a.Inf = true; return a }

func infinite2(a api.G2) api.G2 { a.Inf = true; return a }

func neg1(a api.G1) api.G1 { a, _ = one.Neg(a); return a }

func neg2(a api.G2) api.G2 { a, _ = two.Neg(a); return a }

func add1(a, b api.G1) api.G1 { a, _ = one.Add(a, b); return a }

func add2(a, b api.G2) api.G2 { a, _ = two.Add(a, b); return a }

func mul1(a api.G1, k *big.Int) api.G1 { a, _ = one.Mul(a, often(k)); return a }

// mul2 goes by 128 bits at a time: what it takes may be longer than 256.
func mul2(a api.G2, k *big.Int) api.G2 {
	sum := two.Zero()
	for i := k.BitLen() / 128; i >= 0; i-- {
		digit := new(big.Int).Rsh(k, uint(128*i))
		sum, _ = two.Mul(sum, often(twoTo(128)))
		more, _ := two.Mul(a, often(digit.And(digit, most(128))))
		sum = add2(sum, more)
	}
	return sum
}

// amounts are how often a generator is taken, to be a point of the group.
func amounts() []*big.Int {
	all := []*big.Int{big.NewInt(2), big.NewInt(3), big.NewInt(4), big.NewInt(5), new(big.Int).Rsh(order, 1)}
	s := rand.New(rand.NewSource(1))
	for range 8 {
		all = append(all, new(big.Int).Rand(s, order))
	}
	return all
}

func grouped1() []api.G1 {
	g := one.Gen()
	all := []api.G1{one.Zero(), g, neg1(g)}
	for _, k := range amounts() {
		all = append(all, mul1(g, k), neg1(mul1(g, k)))
	}
	return all
}

func grouped2() []api.G2 {
	g := two.Gen()
	all := []api.G2{two.Zero(), g, neg2(g)}
	for _, k := range amounts() {
		all = append(all, mul2(g, k), neg2(mul2(g, k)))
	}
	return all
}

func above1(x api.Fp) api.Fp { return fp.Add(fp.Mul(fp.Mul(x, x), x), api.Fp{4}) }

func above2(x api.Fp2) api.Fp2 {
	return duo.Add(duo.Mul(duo.Mul(x, x), x), api.Fp2{A: api.Fp{4}, B: api.Fp{4}})
}

// strays1 are points with small Xs, the first one of which is 0, with either Y.
// None is of the group.
func strays1(many int) []api.G1 {
	var all []api.G1
	for x := uint64(0); len(all) < 2*many; x++ {
		if y, why := fp.Root(above1(api.Fp{x})); why == api.OK {
			a := api.G1{X: api.Fp{x}, Y: y}
			all = append(all, a, neg1(a))
		}
	}
	return all
}

// strays2 are points with small Xs, also with such of which a part is 0, with
// either Y. None is of the group.
func strays2(many int) []api.G2 {
	var all []api.G2
	for n := uint64(0); len(all) < 2*many; n++ {
		x := api.Fp2{A: api.Fp{n % 6}, B: api.Fp{n / 6}}
		if y, why := duo.Root(above2(x)); why == api.OK {
			a := api.G2{X: x, Y: y}
			all = append(all, a, neg2(a))
		}
	}
	return all
}

// flat are points whose Y has a part 0, with either Y: first such with the part
// B, then such with the part A. The B of X X X + 4 + 4 u is 0, if 3 A A B - B B B
// is -4; and then that has a root, one part of which is 0.
func flat() []api.G2 {
	var withoutB, withoutA []api.G2
	for n := uint64(1); len(withoutB) == 0 || len(withoutA) == 0; n++ {
		b := api.Fp{n}
		aa := fp.Mul(fp.Sub(fp.Mul(fp.Mul(b, b), b), api.Fp{4}), fp.Inv(fp.Mul(api.Fp{3}, b)))
		a, why := fp.Root(aa)
		if why != api.OK {
			continue
		}
		x := api.Fp2{A: a, B: b}
		y, _ := duo.Root(above2(x))
		if y.B == (api.Fp{}) {
			withoutB = append(withoutB, api.G2{X: x, Y: y}, api.G2{X: x, Y: duo.Neg(y)})
		} else {
			withoutA = append(withoutA, api.G2{X: x, Y: y}, api.G2{X: x, Y: duo.Neg(y)})
		}
	}
	return slices.Concat(withoutB[:2], withoutA[:2])
}

// eleven and thirteen are points of that order, which divides the curve's cofactor
// twice. (How many points the curve has, divided by r, is its cofactor.)
func eleven() api.G1 {
	others := plus(hex("D201000000010000"), 1)
	others.Div(others.Mul(others, others), big.NewInt(3*121))
	for _, a := range strays1(20) {
		a = mul1(mul1(a, order), others)
		if !a.Inf {
			return a
		}
	}
	return one.Zero()
}

func thirteen() api.G2 {
	others := hex("5D543A95414E7F1091D50792876A202CD91DE4547085ABAA68A205B2E5A7DDFA628F1CB4D9E82EF21537E293A6691AE1616EC6E786F0C70CF1C38E31C7238E5")
	others.Div(others, big.NewInt(169))
	for _, a := range strays2(20) {
		a = mul2(mul2(a, order), others)
		if next := mul2(a, big.NewInt(13)); !next.Inf {
			a = next
		}
		if !a.Inf {
			return a
		}
	}
	return two.Zero()
}

func ungrouped1() []api.G1 {
	few := eleven()
	all := append(strays1(6), few, neg1(few), add1(few, few))
	return append(all, add1(all[0], one.Gen()), add1(all[2], one.Gen()), add1(few, neg1(one.Gen())))
}

func ungrouped2() []api.G2 {
	few := thirteen()
	all := append(slices.Concat(strays2(8), flat()), few, neg2(few), add2(few, few))
	return append(all, add2(all[0], two.Gen()), add2(few, neg2(two.Gen())))
}

// hopeless tells by Jacobi's sign whether a number has no root.
func hopeless(a api.Fp) bool { return big.Jacobi(value(a), prime) < 0 }

// edges are elements at their edges, and any.
func edges() []*big.Int {
	all := []*big.Int{
		plus(prime, -1), plus(prime, -2), plus(prime, -3), new(big.Int).Rsh(prime, 1), twoTo(380), most(380), twoTo(64),
	}
	for n := range int64(10) {
		all = append(all, big.NewInt(n))
	}
	s := rand.New(rand.NewSource(2))
	for range 8 {
		all = append(all, new(big.Int).Rand(s, prime))
	}
	return all
}

func lost1() [][]*big.Int {
	var all [][]*big.Int
	for _, x := range edges() {
		if hopeless(above1(whole(x))) {
			all = append(all, []*big.Int{x})
		}
	}
	return all
}

// lost2 asks for a root of A A + B B: without one there is none of A + B u.
func lost2() [][]*big.Int {
	var all [][]*big.Int
	each := edges()
	for i, b := range each {
		for _, a := range []*big.Int{each[(i+1)%len(each)], b, {}, plus(prime, -1)} {
			yy := above2(api.Fp2{A: whole(a), B: whole(b)})
			if hopeless(fp.Add(fp.Mul(yy.A, yy.A), fp.Mul(yy.B, yy.B))) {
				all = append(all, []*big.Int{b, a})
			}
		}
	}
	return all
}

// nowhereNear are elements that meet no point, each of which is next to what meets one.
func nowhereNear(gen, stray spot, lost [][]*big.Int) []spot {
	half := len(gen) / 2
	all := []spot{
		slices.Concat(gen[half:], gen[:half]), slices.Concat(gen[:half], gen[:half]),
		slices.Concat(gen[:half], stray[half:]), slices.Concat(stray[:half], gen[half:]),
	}
	for place := range gen {
		less, more := plus(gen[place], -1), plus(gen[place], 1)
		all = append(all, gen.with(place, less), gen.with(place, more), gen.with(place, &big.Int{}))
		all = append(all, gen.with(place, plus(prime, -1)), stray.with(place, plus(stray[place], 1)))
	}
	for _, x := range lost {
		all = append(all, slices.Concat(x, gen[half:]))
	}
	return all
}

// swapped are a point of the second curve with parts in another order, and with
// the sign of one part turned.
func swapped(s spot) []spot {
	all := []spot{{s[1], s[0], s[2], s[3]}, {s[0], s[1], s[3], s[2]}, {s[1], s[0], s[3], s[2]}}
	for place := range s {
		all = append(all, s.with(place, new(big.Int).Sub(prime, s[place])))
	}
	return all
}

// wrongs are points that may not be: such that meet no point of the curve, such
// that would be one if a number were taken modulo p, and such that are said to be
// at infinity, but have an X or a Y.
func wrongs[P any](at func(spot) P, nowhere, points []spot, infinite func(P) P) []P {
	var all []P
	for _, s := range nowhere {
		all = append(all, at(s), infinite(at(s)))
	}
	for _, s := range points {
		all = append(all, infinite(at(s)))
		for place := range s {
			all = append(all, at(s.with(place, new(big.Int).Add(s[place], prime))))
		}
	}
	zeros := make(spot, len(nowhere[0]))
	for place := range zeros {
		zeros[place] = &big.Int{}
	}
	for place := range zeros {
		for _, n := range []*big.Int{big.NewInt(1), prime, most(384), twoTo(383)} {
			all = append(all, infinite(at(zeros.with(place, n))), at(zeros.with(place, n)))
		}
	}
	return all
}
