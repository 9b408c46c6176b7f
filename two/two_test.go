package two_test

import (
	"fmt"
	"math/big"
	"math/rand"
	"testing"

	"chirograph/api"
	"chirograph/fr"
	"chirograph/two"
)

// gen is the generator, from the chapter's own digits.
func gen() spot {
	return spot{
		&wide{
			hex("024AA2B2F08F0A91260805272DC51051C6E47AD4FA403B02B4510B647AE3D1770BAC0326A805BBEFD48056C8C121BDB8"),
			hex("13E02B6052719F607DACD3A088274F65596BD0D09920B61AB5DA61BBDC7F5049334CF11213945D57E5AC7D055D042B7E"),
		},
		&wide{
			hex("0CE5D527727D6E118CC9CDC6DA2E351AADFD9BAA8CBDD3A76D429A695160D12C923AC9CC3BACA289E193548608B82801"),
			hex("0606C4A02EA734CC32ACD2B02BC28B99CB3E287E85A763AF267492AB572E99AB3F370D275CEC1DA1AAA9075FF05F79BE"),
		},
	}
}

// spot is a point in the library's numbers, which the tests reckon with; at
// infinity it has no x.
type spot struct{ x, y *wide }

func at(x, y wide) spot { return spot{&x, &y} }

func from(a api.G2) spot {
	if a.Inf {
		return spot{}
	}
	return at(wide{value(a.X.A[:]), value(a.X.B[:])}, wide{value(a.Y.A[:]), value(a.Y.B[:])})
}

func (s spot) put() api.G2 {
	if s.x == nil {
		return api.G2{Inf: true}
	}
	return api.G2{X: s.x.put(), Y: s.y.put()}
}

// plus is the sum, in the chapter's own words.
func (s spot) plus(t spot) spot {
	if s.x == nil {
		return t
	}
	if t.x == nil {
		return s
	}
	var l wide
	if !s.x.is(*t.x) {
		l = t.y.minus(*s.y).over(t.x.minus(*s.x))
	} else if s.y.plus(*t.y).is(small(0, 0)) {
		return spot{}
	} else {
		l = s.x.times(*s.x).often(3).over(s.y.often(2))
	}
	x := l.times(l).minus(*s.x).minus(*t.x)
	return at(x, l.times(s.x.minus(x)).minus(*s.y))
}

func (s spot) negative() spot {
	if s.x == nil {
		return s
	}
	return at(*s.x, s.y.often(-1))
}

// doubles are a point, twice it, four times it and so on, up to a number's length.
func (s spot) doubles(length int) []spot {
	var all []spot
	for range length {
		all = append(all, s)
		s = s.plus(s)
	}
	return all
}

// picked adds up those doubles that a number's bits say: from the lowest bit up,
// which is another way than doubling the sum.
func picked(doubles []spot, k *big.Int) spot {
	sum := spot{}
	for i := range k.BitLen() {
		if k.Bit(i) == 1 {
			sum = sum.plus(doubles[i])
		}
	}
	return sum
}

func (s spot) times(k *big.Int) spot { return picked(s.doubles(k.BitLen()), k) }

// above is the Y Y of an X.
func above(x wide) wide { return x.times(x).times(x).plus(small(4, 4)) }

// strays are points with small Xs, with either Y: among the Xs are such with one
// part 0. None is of the group.
func strays(many int) []spot {
	var all []spot
	for n := int64(0); ; n++ {
		for a := int64(0); a <= n; a++ {
			if y, ok := above(small(a, n-a)).root(); ok {
				s := at(small(a, n-a), y)
				all = append(all, s, s.negative())
			}
			if len(all) >= 2*many {
				return all
			}
		}
	}
}

// withYPart is a point that has the Y y or y u, whichever is asked, for the
// smallest y that there is.
func withYPart(u bool) spot {
	for n := int64(1); ; n++ {
		y := small(n, 0)
		if u {
			y = small(0, n)
		}
		if cube := y.times(y).minus(small(4, 4)); cube.isCube() {
			return at(cube.cubeRoot(), y)
		}
	}
}

// lacking are points with a part of X or Y that is 0. (No X and no Y is 0 in both.)
func lacking() []spot {
	var all []spot
	var xA, xB bool
	for _, s := range strays(30) {
		if s.x.a.Sign() == 0 && !xA || s.x.b.Sign() == 0 && !xB {
			xA, xB = xA || s.x.a.Sign() == 0, xB || s.x.b.Sign() == 0
			all = append(all, s, s.negative(), s.turned())
		}
	}
	for _, u := range []bool{false, true} {
		s := withYPart(u)
		all = append(all, s, s.negative(), s.turned())
	}
	return all
}

// cofactor is how many points the curve has, divided by r.
func cofactor() *big.Int {
	return hex("5D543A95414E7F1091D50792876A202CD91DE4547085ABAA68A205B2E5A7DDFA628F1CB4D9E82EF21537E293A6691AE1616EC6E786F0C70CF1C38E31C7238E5")
}

// ofOrder is a point whose order is that prime, which divides the cofactor.
func ofOrder(n int64) spot {
	others, prime := cofactor(), big.NewInt(n)
	for new(big.Int).Rem(others, prime).Sign() == 0 {
		others.Div(others, prime)
	}
	for _, s := range strays(20) {
		s = s.times(others).times(order)
		for s.times(prime).x != nil {
			s = s.times(prime)
		}
		if s.x != nil {
			return s
		}
	}
	return spot{}
}

// turned is the point with the same Y and another X: X times a number whose
// third power is 1.
func (s spot) turned() spot {
	third := new(big.Int).Div(plus(prime, -1), big.NewInt(3))
	return at(s.x.times(small(2, 0).power(third)), *s.y)
}

// grouped are points of the group.
func grouped() []spot {
	g := gen()
	all := []spot{{}, g, g.negative(), g.turned(), g.turned().negative()}
	for _, k := range []int64{2, 3, 4, 5} {
		all = append(all, g.times(big.NewInt(k)))
	}
	s := rand.New(rand.NewSource(1))
	for range 3 {
		all = append(all, g.times(new(big.Int).Rand(s, order)))
	}
	return append(all, all[len(all)-1].negative())
}

// ungrouped are points of the curve that are not of the group: also such as are
// soon at infinity, if they are added to themselves.
func ungrouped() []spot {
	all := append(strays(2), lacking()...)
	few := ofOrder(13)
	all = append(all, few, few.plus(few), few.negative(), ofOrder(23), ofOrder(2713))
	return append(all, all[0].plus(gen()), few.plus(gen()), all[2].plus(few), all[0].turned())
}

func points() []spot { return append(grouped(), ungrouped()...) }

// part is one of a point's four numbers, counted from X's A on.
func part(a *api.G2, n int) *api.Fp {
	return []*api.Fp{&a.X.A, &a.X.B, &a.Y.A, &a.Y.B}[n]
}

// atInfinity are points that are said to be at infinity, but have an X or a Y.
func atInfinity() []api.G2 {
	g := gen().put()
	all := []api.G2{{X: g.X, Y: g.Y, Inf: true}, {X: g.X, Inf: true}, {Y: g.Y, Inf: true}}
	for n := range 4 {
		for _, x := range []api.Fp{{1}, {2}, {5: 1}, {5: 1 << 63}, whole(prime), whole(plus(prime, -1))} {
			a := api.G2{Inf: true}
			*part(&a, n) = x
			all = append(all, a)
		}
	}
	return all
}

// beyond are points of the curve, if their parts were taken modulo p.
func beyond() []api.G2 {
	var all []api.G2
	for _, s := range append(append(strays(2), gen()), lacking()...) {
		for k := int64(1); k <= 8; k += 7 {
			for n := range 4 {
				a := s.put()
				x := part(&a, n)
				*x = whole(new(big.Int).Add(value(x[:]), times(prime, k)))
				all = append(all, a)
			}
		}
	}
	return all
}

// otherCurves are points whose Y Y is X X X and something else than 4 + 4 u.
func otherCurves() []api.G2 {
	var all []api.G2
	for _, other := range []wide{
		small(4, 0), small(0, 4), small(4, -4), small(-4, 4), small(-4, -4), small(4, 3), small(3, 4), small(1, 1), small(12, 12),
	} {
		for x := range int64(4) {
			x := small(x, 2)
			if y, ok := x.times(x).times(x).plus(other).root(); ok {
				all = append(all, at(x, y).put())
			}
		}
	}
	return all
}

// offCurve are elements that meet no point.
func offCurve() []api.G2 {
	g, n := gen(), whole(plus(twoTo(384), -1))
	all := []api.G2{{}, {X: g.put().X}, {Y: g.put().Y}, at(*g.y, *g.x).put()}
	all = append(all, at(g.x.often(-1), *g.y).put(), at(*g.x, g.y.times(small(0, 1))).put())
	for place := range 4 {
		for _, x := range []api.Fp{{1}, {2}, {4}, whole(prime), n} {
			a, b := api.G2{}, g.put()
			*part(&a, place), *part(&b, place) = x, x
			all = append(all, a, b)
		}
		// One part has its sign turned, or is the next one.
		a, b := g.put(), g.put()
		x, y := part(&a, place), part(&b, place)
		*x = whole(new(big.Int).Sub(prime, value(x[:])))
		*y = whole(plus(value(y[:]), 1))
		all = append(all, a, b)
	}
	g.x.a, g.x.b, g.y.a, g.y.b = g.x.b, g.x.a, g.y.b, g.y.a
	return append(append(all, g.put()), otherCurves()...)
}

// wrongs are points that may not be.
func wrongs() []api.G2 { return append(append(atInfinity(), beyond()...), offCurve()...) }

// numbers are how often a point is taken: at their edges, and any.
func numbers() []*big.Int {
	all := []*big.Int{big.NewInt(0), big.NewInt(1), big.NewInt(2), big.NewInt(3), big.NewInt(13)}
	for d := int64(-2); d <= 2; d++ {
		all = append(all, plus(order, d))
	}
	all = append(all, times(order, 2), plus(twoTo(256), -1), plus(twoTo(256), -2))
	for _, n := range []uint{64, 128, 192, 255} {
		all = append(all, twoTo(n), plus(twoTo(n), -1))
	}
	s := rand.New(rand.NewSource(2))
	for range 2 {
		all = append(all, new(big.Int).Rand(s, twoTo(256)))
	}
	return all
}

func check(t *testing.T, name string, got api.G2, why api.Errno, want api.G2, args ...any) {
	t.Helper()
	if why != api.OK || got != want {
		t.Fatalf("%s of %v = %v, %d, not %v", name, args, got, why, want)
	}
}

func expectErrCurve(t *testing.T, name string, got api.G2, why api.Errno, args ...any) {
	t.Helper()
	if why != api.ErrCurve || got != (api.G2{}) {
		t.Fatalf("%s of %v = %v, %d", name, args, got, why)
	}
}

func add(t *testing.T, a, b api.G2) api.G2 {
	t.Helper()
	sum, why := two.Add(a, b)
	if why != api.OK {
		t.Fatalf("Add of %v and %v: %d", a, b, why)
	}
	return sum
}

func neg(t *testing.T, a api.G2) api.G2 {
	t.Helper()
	negative, why := two.Neg(a)
	if why != api.OK {
		t.Fatalf("Neg of %v: %d", a, why)
	}
	return negative
}

func mul(t *testing.T, a api.G2, k api.Fr) api.G2 {
	t.Helper()
	sum, why := two.Mul(a, k)
	if why != api.OK {
		t.Fatalf("Mul of %v by %v: %d", a, k, why)
	}
	return sum
}

// forEach runs a test of each point, all at one time: what each takes is long.
func forEach(t *testing.T, points []spot, test func(t *testing.T, s spot)) {
	for i, s := range points {
		t.Run(fmt.Sprint(i), func(t *testing.T) {
			t.Parallel()
			test(t, s)
		})
	}
}

// TestCurve is what the formulas lean on, and the tests' own points: -4 - 4 u is
// no third power, and the curve has as many points as the cofactor times r.
func TestCurve(t *testing.T) {
	t.Parallel()
	if small(-4, -4).isCube() {
		t.Error("-4 - 4 u is a third power: there is a point with Y 0")
	}
	if _, ok := small(4, 4).root(); ok {
		t.Error("4 + 4 u is a square: there is a point with X 0, to be tried")
	}
	for _, s := range append(strays(4), lacking()...) {
		if !s.y.times(*s.y).is(above(*s.x)) || s.times(order).times(cofactor()).x != nil {
			t.Errorf("the point %v", s.put())
		}
	}
	for _, n := range []int64{13, 23, 2713} {
		if s := ofOrder(n); s.x == nil || s.times(big.NewInt(n)).x != nil {
			t.Errorf("a point of order %d", n)
		}
	}
	var without [4]int
	for _, s := range lacking() {
		a := s.put()
		for n := range 4 {
			if *part(&a, n) == (api.Fp{}) {
				without[n]++
			}
		}
	}
	if without != [4]int{3, 3, 3, 3} {
		t.Errorf("points with a part 0: %v", without)
	}
}

// TestRight: P9.1.
func TestRight(t *testing.T) {
	for _, s := range append(points(), strays(30)...) {
		if !two.Right(s.put()) {
			t.Errorf("Right(%v) is false", s.put())
		}
	}
	for _, a := range wrongs() {
		if two.Right(a) {
			t.Errorf("Right(%v) is true", a)
		}
	}
	if two.Right(api.G2{}) || !two.Right(api.G2{Inf: true}) {
		t.Error("what is right with X 0 and Y 0")
	}
}

// TestGroup: P9.1.
func TestGroup(t *testing.T) {
	t.Parallel()
	for _, s := range points() {
		if got, want := two.Group(s.put()), s.times(order).x == nil; got != want {
			t.Errorf("Group(%v) = %v", s.put(), got)
		}
	}
	for _, s := range grouped() {
		if !two.Group(s.put()) {
			t.Errorf("Group(%v) is false", s.put())
		}
	}
	for _, s := range append(ungrouped(), strays(20)...) {
		if two.Group(s.put()) {
			t.Errorf("Group(%v) is true", s.put())
		}
	}
	for _, a := range wrongs() {
		if two.Group(a) {
			t.Errorf("Group(%v) is true", a)
		}
	}
}

// TestGenZero: P9.1, and of P9.4 that the generator is of the group and not at infinity.
func TestGenZero(t *testing.T) {
	g := two.Gen()
	if g != gen().put() || g.Inf || !two.Right(g) || !two.Group(g) {
		t.Errorf("Gen = %v", g)
	}
	z := two.Zero()
	if z != (api.G2{Inf: true}) || !two.Right(z) || !two.Group(z) {
		t.Errorf("Zero = %v", z)
	}
}

// TestExamples: the chapter's.
func TestExamples(t *testing.T) {
	g, zero := two.Gen(), api.G2{Inf: true}
	sum, why := two.Add(g, neg(t, g))
	check(t, "Add", sum, why, zero)
	sum, why = two.Mul(g, api.Fr{})
	check(t, "Mul", sum, why, zero)
	sum, why = two.Mul(g, api.Fr{2})
	check(t, "Mul", sum, why, add(t, g, g))
	if two.Right(api.G2{}) {
		t.Error("Right(X 0, Y 0, not at infinity)")
	}
}

// TestAdd: P9.2, all kinds of points, each to each: among them each to itself, to
// its negative, and to those with the same Y.
func TestAdd(t *testing.T) {
	t.Parallel()
	all := points()
	forEach(t, all, func(t *testing.T, s spot) {
		for _, u := range all {
			sum, why := two.Add(s.put(), u.put())
			check(t, "Add", sum, why, s.plus(u).put(), s.put(), u.put())
		}
		sum, why := two.Add(s.put(), s.negative().put())
		check(t, "Add", sum, why, api.G2{Inf: true}, s.put())
	})
}

// TestAddMany: P9.2, ordinary points.
func TestAddMany(t *testing.T) {
	t.Parallel()
	s := gen()
	for _, u := range strays(200) {
		sum, why := two.Add(s.put(), u.put())
		check(t, "Add", sum, why, s.plus(u).put(), s.put(), u.put())
		s = s.plus(u)
	}
}

// TestAddEdges: P9.2, written out, with points of which a part is 0 among them.
func TestAddEdges(t *testing.T) {
	zero := api.G2{Inf: true}
	sum, why := two.Add(zero, zero)
	check(t, "Add", sum, why, zero)
	for _, s := range append(lacking(), gen()) {
		a, negative, turned := s.put(), s.negative().put(), s.turned().put()
		// With the same Y the line goes through the third such point.
		third := s.turned().turned().negative().put()
		for _, row := range []struct{ a, b, want api.G2 }{
			{zero, a, a}, {a, zero, a}, {a, negative, zero}, {negative, a, zero},
			{a, turned, third}, {turned, a, third}, {a, a, s.plus(s).put()},
		} {
			sum, why := two.Add(row.a, row.b)
			check(t, "Add", sum, why, row.want, row.a, row.b)
		}
	}
}

// TestNeg: P9.2.
func TestNeg(t *testing.T) {
	for _, s := range points() {
		negative, why := two.Neg(s.put())
		check(t, "Neg", negative, why, s.negative().put(), s.put())
		check(t, "Neg of Neg", neg(t, negative), api.OK, s.put(), s.put())
	}
	negative, why := two.Neg(api.G2{Inf: true})
	check(t, "Neg", negative, why, api.G2{Inf: true})
	for _, u := range []bool{false, true} {
		a := withYPart(u).put()
		negative, why := two.Neg(a)
		if a.Y.A == (api.Fp{}) {
			a.Y.B = whole(new(big.Int).Sub(prime, value(a.Y.B[:])))
		} else {
			a.Y.A = whole(new(big.Int).Sub(prime, value(a.Y.A[:])))
		}
		check(t, "Neg", negative, why, a)
	}
}

// TestErrCurve: P9.2 and P9.3, either argument, and both.
func TestErrCurve(t *testing.T) {
	t.Parallel()
	good := []api.G2{{Inf: true}, gen().put(), strays(1)[0].put()}
	for _, bad := range wrongs() {
		for _, a := range good {
			sum, why := two.Add(a, bad)
			expectErrCurve(t, "Add", sum, why, a, bad)
			sum, why = two.Add(bad, a)
			expectErrCurve(t, "Add", sum, why, bad, a)
		}
		sum, why := two.Add(bad, bad)
		expectErrCurve(t, "Add", sum, why, bad, bad)
		negative, why := two.Neg(bad)
		expectErrCurve(t, "Neg", negative, why, bad)
		for _, k := range numbers() {
			sum, why := two.Mul(bad, often(k))
			expectErrCurve(t, "Mul", sum, why, bad, k)
		}
	}
}

// TestMul: P9.3, all kinds of points, as often as each number says.
func TestMul(t *testing.T) {
	t.Parallel()
	forEach(t, points(), func(t *testing.T, s spot) {
		doubles := s.doubles(256)
		for _, k := range numbers() {
			sum, why := two.Mul(s.put(), often(k))
			check(t, "Mul", sum, why, picked(doubles, k).put(), s.put(), k)
		}
	})
}

// TestMulSmall: P9.3, one by one.
func TestMulSmall(t *testing.T) {
	t.Parallel()
	forEach(t, points(), func(t *testing.T, s spot) {
		sum := spot{}
		for k := range int64(30) {
			got, why := two.Mul(s.put(), often(big.NewInt(k)))
			check(t, "Mul", got, why, sum.put(), s.put(), k)
			sum = sum.plus(s)
		}
	})
}

// TestMulEdges: P9.3, written out. Of a point that is not of the group r is not
// taken for 0, nor r + 1 for 1.
func TestMulEdges(t *testing.T) {
	t.Parallel()
	zero, g := api.G2{Inf: true}, gen().put()
	few := ofOrder(13)
	a, most := few.put(), plus(twoTo(256), -1)
	left := func(n *big.Int) api.G2 { return few.times(new(big.Int).Rem(n, big.NewInt(13))).put() }
	rows := []struct {
		a    api.G2
		k    *big.Int
		want api.G2
	}{
		{g, big.NewInt(0), zero}, {g, big.NewInt(1), g}, {g, plus(order, -1), gen().negative().put()},
		{g, order, zero}, {g, plus(order, 1), g}, {zero, most, zero}, {zero, big.NewInt(0), zero},
		{a, big.NewInt(0), zero}, {a, big.NewInt(1), a}, {a, big.NewInt(12), few.negative().put()},
		{a, big.NewInt(13), zero}, {a, big.NewInt(14), a}, {a, plus(order, -1), left(plus(order, -1))},
		{a, order, left(order)}, {a, plus(order, 1), left(plus(order, 1))}, {a, most, left(most)},
	}
	for _, row := range rows {
		sum, why := two.Mul(row.a, often(row.k))
		check(t, "Mul", sum, why, row.want, row.a, row.k)
	}
	for _, s := range ungrouped() {
		if mul(t, s.put(), often(order)) == zero || mul(t, s.put(), often(plus(order, 1))) == s.put() {
			t.Errorf("Mul of %v, modulo r", s.put())
		}
	}
}

// checkOrders adds three points in all orders and groupings.
func checkOrders(t *testing.T, a, b, c api.G2) {
	t.Helper()
	want := from(a).plus(from(b)).plus(from(c)).put()
	for _, l := range [][3]api.G2{{a, b, c}, {a, c, b}, {b, a, c}, {b, c, a}, {c, a, b}, {c, b, a}} {
		check(t, "(a + b) + c", add(t, add(t, l[0], l[1]), l[2]), api.OK, want, l)
		check(t, "a + (b + c)", add(t, l[0], add(t, l[1], l[2])), api.OK, want, l)
	}
}

// TestAnyOrder: P9.4, also where the sum of two is at infinity, is the third
// point, or its negative.
func TestAnyOrder(t *testing.T) {
	t.Parallel()
	s := rand.New(rand.NewSource(3))
	all := points()
	some := func() api.G2 { return all[s.Intn(len(all))].put() }
	for range 40 {
		a, b := some(), some()
		sum := add(t, a, b)
		checkOrders(t, a, b, some())
		checkOrders(t, a, b, sum)
		checkOrders(t, a, b, neg(t, sum))
		checkOrders(t, a, neg(t, a), b)
		checkOrders(t, a, a, b)
		checkOrders(t, a, a, neg(t, add(t, a, a)))
	}
}

// TestTimesAddUp: P9.4, numbers whose sum and product are as they are.
func TestTimesAddUp(t *testing.T) {
	t.Parallel()
	s := rand.New(rand.NewSource(4))
	all := points()
	for _, point := range all {
		a := point.put()
		k, l := new(big.Int).Rand(s, twoTo(255)), new(big.Int).Rand(s, twoTo(255))
		sum := add(t, mul(t, a, often(k)), mul(t, a, often(l)))
		check(t, "k and l", mul(t, a, often(new(big.Int).Add(k, l))), api.OK, sum, a, k, l)
		k, l = new(big.Int).Rand(s, twoTo(128)), new(big.Int).Rand(s, twoTo(128))
		product := mul(t, mul(t, a, often(k)), often(l))
		check(t, "k times l", mul(t, a, often(new(big.Int).Mul(k, l))), api.OK, product, a, k, l)
		b := all[s.Intn(len(all))].put()
		both := add(t, mul(t, a, often(k)), mul(t, b, often(k)))
		check(t, "k of a sum", mul(t, add(t, a, b), often(k)), api.OK, both, a, b, k)
		check(t, "k of the negative", mul(t, neg(t, a), often(k)), api.OK, neg(t, mul(t, a, often(k))), a, k)
	}
}

// TestModuloR: P9.4, points of the group alone.
func TestModuloR(t *testing.T) {
	t.Parallel()
	all := numbers()
	forEach(t, grouped(), func(t *testing.T, s spot) {
		a := s.put()
		for i, n := range all {
			k, l := often(n), often(all[(i+5)%len(all)])
			check(t, "k modulo r", mul(t, a, k), api.OK, mul(t, a, fr.Clean(k)), a, n)
			if i%4 == 0 {
				sum := add(t, mul(t, a, k), mul(t, a, l))
				check(t, "k and l", mul(t, a, fr.Add(k, l)), api.OK, sum, a, k, l)
				product := mul(t, mul(t, a, k), l)
				check(t, "k times l", mul(t, a, fr.Mul(k, l)), api.OK, product, a, k, l)
			}
		}
	})
}
