package one_test

import (
	"math/big"
	"math/rand"
	"testing"

	"chirograph/api"
	"chirograph/fr"
	"chirograph/one"
)

const size = 48

// prime and order are p and r, and genX and genY the generator's, read from the
// chapters' own digits.
var (
	prime = hex("1A0111EA397FE69A4B1BA7B6434BACD764774B84F38512BF6730D2A0F6B0F6241EABFFFEB153FFFFB9FEFFFFFFFFAAAB")
	order = hex("73EDA753299D7D483339D80809A1D80553BDA402FFFE5BFEFFFFFFFF00000001")
	genX  = hex("17F1D3A73197D7942695638C4FA9AC0FC3688C4F9774B905A14E3A3F171BAC586C55E83FF97A1AEFFB3AF00ADB22C6BB")
	genY  = hex("08B3F481E3AAA0F1A09E30ED741D8AE4FCF5E095D5D00AF600DB18CB2C04B3EDD03CC744A2888AE40CAA232946C5E7E1")
)

func hex(digits string) *big.Int {
	n, _ := new(big.Int).SetString(digits, 16)
	return n
}

func plus(n *big.Int, d int64) *big.Int { return new(big.Int).Add(n, big.NewInt(d)) }

func times(n *big.Int, k int64) *big.Int { return new(big.Int).Mul(n, big.NewInt(k)) }

func twoTo(n uint) *big.Int { return new(big.Int).Lsh(big.NewInt(1), n) }

// limbs writes n, which must fit, into limbs, the lowest first.
func limbs(n *big.Int, out []uint64) {
	for i, x := range n.FillBytes(make([]byte, 8*len(out))) {
		place := len(out) - 1 - i/8
		out[place] = out[place]<<8 | uint64(x)
	}
}

func whole(n *big.Int) api.Fp {
	var a api.Fp
	limbs(n, a[:])
	return a
}

func often(n *big.Int) api.Fr {
	var k api.Fr
	limbs(n, k[:])
	return k
}

func value(limbs []uint64) *big.Int {
	n := new(big.Int)
	for i := range limbs {
		n.Lsh(n, 64)
		n.Or(n, new(big.Int).SetUint64(limbs[len(limbs)-1-i]))
	}
	return n
}

// spot is a point in the library's numbers, which the tests reckon with; at
// infinity it has no x.
type spot struct{ x, y *big.Int }

func from(a api.G1) spot {
	if a.Inf {
		return spot{}
	}
	return spot{value(a.X[:]), value(a.Y[:])}
}

func (s spot) put() api.G1 {
	if s.x == nil {
		return api.G1{Inf: true}
	}
	return api.G1{X: whole(s.x), Y: whole(s.y)}
}

func rest(n *big.Int) *big.Int { return n.Mod(n, prime) }

func over(n, d *big.Int) *big.Int {
	inverse := new(big.Int).ModInverse(rest(d), prime)
	return rest(inverse.Mul(inverse, n))
}

// plus is the sum, in the chapter's own words.
func (s spot) plus(t spot) spot {
	if s.x == nil {
		return t
	}
	if t.x == nil {
		return s
	}
	var l *big.Int
	if s.x.Cmp(t.x) != 0 {
		l = over(new(big.Int).Sub(t.y, s.y), new(big.Int).Sub(t.x, s.x))
	} else if rest(new(big.Int).Add(s.y, t.y)).Sign() == 0 {
		return spot{}
	} else {
		l = over(times(new(big.Int).Mul(s.x, s.x), 3), times(s.y, 2))
	}
	x := new(big.Int).Mul(l, l)
	x = rest(x.Sub(x.Sub(x, s.x), t.x))
	y := new(big.Int).Mul(l, new(big.Int).Sub(s.x, x))
	return spot{x, rest(y.Sub(y, s.y))}
}

func (s spot) negative() spot {
	if s.x == nil {
		return s
	}
	return spot{s.x, rest(new(big.Int).Neg(s.y))}
}

// times goes from the lowest bit up, which is another way than doubling the sum.
func (s spot) times(k *big.Int) spot {
	sum := spot{}
	for i := range k.BitLen() {
		if k.Bit(i) == 1 {
			sum = sum.plus(s)
		}
		s = s.plus(s)
	}
	return sum
}

// above is the Y Y of an X.
func above(x *big.Int) *big.Int {
	n := new(big.Int).Mul(x, x)
	return rest(n.Add(n.Mul(n, x), big.NewInt(4)))
}

func gen() spot { return spot{genX, genY} }

// strays are points with small Xs: X 0, whose order is 3, and others, with
// either Y. None is of the group.
func strays(many int) []spot {
	var all []spot
	for x := big.NewInt(0); len(all) < 2*many; x = plus(x, 1) {
		y := new(big.Int).ModSqrt(above(x), prime)
		if y != nil {
			s := spot{x, y}
			all = append(all, s, s.negative())
		}
	}
	return all
}

// cofactor is how many points the curve has, divided by r.
func cofactor() *big.Int {
	n := plus(hex("D201000000010000"), 1)
	return n.Div(n.Mul(n, n), big.NewInt(3))
}

// ofOrder is a point whose order is that prime, which divides the cofactor twice.
func ofOrder(n int64) spot {
	others := new(big.Int).Div(cofactor(), big.NewInt(n*n))
	for _, s := range strays(20) {
		s = s.times(others).times(order)
		if s.x != nil {
			return s
		}
	}
	return spot{}
}

// turned is the point with the same Y and another X: X times a number whose
// third power is 1.
func (s spot) turned() spot {
	third := new(big.Int).Div(plus(prime, -1), big.NewInt(3))
	k := new(big.Int).Exp(big.NewInt(2), third, prime)
	return spot{rest(k.Mul(k, s.x)), s.y}
}

// grouped are points of the group.
func grouped() []spot {
	g := gen()
	all := []spot{{}, g, g.negative(), g.turned(), g.turned().negative()}
	for _, k := range []int64{2, 3, 4, 5} {
		all = append(all, g.times(big.NewInt(k)))
	}
	s := rand.New(rand.NewSource(1))
	for range 3 {
		all = append(all, g.times(new(big.Int).Rand(s, order)))
	}
	return append(all, all[len(all)-1].negative())
}

// ungrouped are points of the curve that are not of the group: also such as are
// soon at infinity, if they are added to themselves.
func ungrouped() []spot {
	all := strays(4)
	eleven := ofOrder(11)
	all = append(all, eleven, eleven.plus(eleven), eleven.negative(), ofOrder(10177))
	return append(all, all[0].plus(gen()), eleven.plus(gen()), all[4].plus(eleven), all[4].turned())
}

func points() []spot { return append(grouped(), ungrouped()...) }

// atInfinity are points that are said to be at infinity, but have an X or a Y.
func atInfinity() []api.G1 {
	g, p := gen().put(), whole(prime)
	return []api.G1{
		{X: api.Fp{1}, Inf: true}, {Y: api.Fp{1}, Inf: true}, {X: g.X, Y: g.Y, Inf: true},
		{X: g.X, Inf: true}, {Y: g.Y, Inf: true}, {Y: api.Fp{2}, Inf: true},
		{X: api.Fp{5: 1}, Inf: true}, {Y: api.Fp{5: 1 << 63}, Inf: true},
		{X: p, Inf: true}, {Y: p, Inf: true}, {X: p, Y: p, Inf: true},
	}
}

// beyond are points of the curve, if their X or Y were taken modulo p.
func beyond() []api.G1 {
	var all []api.G1
	for _, s := range append(strays(2), gen()) {
		for k := int64(1); k <= 8; k++ {
			x, y := new(big.Int).Add(s.x, times(prime, k)), new(big.Int).Add(s.y, times(prime, k))
			all = append(all, spot{x, s.y}.put(), spot{s.x, y}.put(), spot{x, y}.put())
		}
	}
	return all
}

// offCurve are elements that meet no point, among them points of other curves.
func offCurve() []api.G1 {
	g, n := gen(), whole(plus(twoTo(384), -1))
	all := []api.G1{
		{}, {X: api.Fp{1}}, {Y: api.Fp{1}}, {Y: api.Fp{4}}, {X: api.Fp{1}, Y: api.Fp{2}},
		{X: whole(prime), Y: whole(prime)}, {X: n, Y: n}, {X: n}, {Y: n},
	}
	for d := int64(-1); d <= 1; d += 2 {
		all = append(all, spot{plus(g.x, d), g.y}.put(), spot{g.x, plus(g.y, d)}.put())
	}
	all = append(all, spot{g.y, g.x}.put(), spot{g.x, new(big.Int).Sub(prime, g.x)}.put())
	for x := range int64(6) {
		for _, other := range []int64{-8, -4, -1, 1, 2} {
			n := plus(above(big.NewInt(x)), other)
			if y := new(big.Int).ModSqrt(rest(n), prime); y != nil {
				all = append(all, spot{big.NewInt(x), y}.put())
			}
		}
	}
	return all
}

// wrongs are points that may not be.
func wrongs() []api.G1 { return append(append(atInfinity(), beyond()...), offCurve()...) }

// numbers are how often a point is taken: at their edges, and any.
func numbers() []*big.Int {
	all := []*big.Int{big.NewInt(0), big.NewInt(1), big.NewInt(2), big.NewInt(3), big.NewInt(11), cofactor()}
	for d := int64(-2); d <= 2; d++ {
		all = append(all, plus(order, d))
	}
	all = append(all, times(order, 2), plus(twoTo(256), -1), plus(twoTo(256), -2))
	for _, n := range []uint{64, 128, 192, 255} {
		all = append(all, twoTo(n), plus(twoTo(n), -1))
	}
	s := rand.New(rand.NewSource(2))
	for range 3 {
		all = append(all, new(big.Int).Rand(s, twoTo(256)))
	}
	return all
}

func check(t *testing.T, name string, got api.G1, why api.Errno, want api.G1, args ...any) {
	t.Helper()
	if why != api.OK || got != want {
		t.Fatalf("%s of %v = %v, %d, not %v", name, args, got, why, want)
	}
}

func expectErrCurve(t *testing.T, name string, got api.G1, why api.Errno, args ...any) {
	t.Helper()
	if why != api.ErrCurve || got != (api.G1{}) {
		t.Fatalf("%s of %v = %v, %d", name, args, got, why)
	}
}

func add(t *testing.T, a, b api.G1) api.G1 {
	t.Helper()
	sum, why := one.Add(a, b)
	if why != api.OK {
		t.Fatalf("Add of %v and %v: %d", a, b, why)
	}
	return sum
}

func neg(t *testing.T, a api.G1) api.G1 {
	t.Helper()
	negative, why := one.Neg(a)
	if why != api.OK {
		t.Fatalf("Neg of %v: %d", a, why)
	}
	return negative
}

func mul(t *testing.T, a api.G1, k api.Fr) api.G1 {
	t.Helper()
	sum, why := one.Mul(a, k)
	if why != api.OK {
		t.Fatalf("Mul of %v by %v: %d", a, k, why)
	}
	return sum
}

// TestCurve is what the formulas lean on, and the tests' own points: -4 is no
// third power, and the curve has as many points as the cofactor times r.
func TestCurve(t *testing.T) {
	third := new(big.Int).Div(plus(prime, -1), big.NewInt(3))
	if new(big.Int).Exp(plus(prime, -4), third, prime).Cmp(big.NewInt(1)) == 0 {
		t.Error("-4 is a third power: there is a point with Y 0")
	}
	for _, s := range strays(10) {
		if s.times(order).times(cofactor()).x != nil {
			t.Errorf("the order of the point with X %d", s.x)
		}
	}
	for _, n := range []int64{11, 10177} {
		if s := ofOrder(n); s.x == nil || s.times(big.NewInt(n)).x != nil {
			t.Errorf("a point of order %d", n)
		}
	}
}

// TestRight: P8.1.
func TestRight(t *testing.T) {
	for _, s := range points() {
		if !one.Right(s.put()) {
			t.Errorf("Right(%v) is false", s.put())
		}
	}
	for _, a := range wrongs() {
		if one.Right(a) {
			t.Errorf("Right(%v) is true", a)
		}
	}
	if one.Right(api.G1{}) || !one.Right(api.G1{Inf: true}) || !one.Right(api.G1{Y: api.Fp{2}}) {
		t.Error("what is right with X 0")
	}
}

// TestGroup: P8.1.
func TestGroup(t *testing.T) {
	for _, s := range points() {
		if got, want := one.Group(s.put()), s.times(order).x == nil; got != want {
			t.Errorf("Group(%v) = %v", s.put(), got)
		}
	}
	for _, s := range grouped() {
		if !one.Group(s.put()) {
			t.Errorf("Group(%v) is false", s.put())
		}
	}
	for _, s := range append(ungrouped(), strays(20)...) {
		if one.Group(s.put()) {
			t.Errorf("Group(%v) is true", s.put())
		}
	}
	for _, a := range wrongs() {
		if one.Group(a) {
			t.Errorf("Group(%v) is true", a)
		}
	}
}

// TestGenZero: P8.1, and of P8.4 that the generator is of the group and not at infinity.
func TestGenZero(t *testing.T) {
	g := one.Gen()
	if g != gen().put() || g.Inf || !one.Right(g) || !one.Group(g) {
		t.Errorf("Gen = %v", g)
	}
	z := one.Zero()
	if z != (api.G1{Inf: true}) || !one.Right(z) || !one.Group(z) {
		t.Errorf("Zero = %v", z)
	}
}

// TestExamples: the chapter's.
func TestExamples(t *testing.T) {
	g, zero := one.Gen(), api.G1{Inf: true}
	sum, why := one.Add(g, neg(t, g))
	check(t, "Add", sum, why, zero)
	sum, why = one.Mul(g, api.Fr{})
	check(t, "Mul", sum, why, zero)
	sum, why = one.Mul(g, api.Fr{2})
	check(t, "Mul", sum, why, add(t, g, g))
	if one.Right(api.G1{}) {
		t.Error("Right(X 0, Y 0, not at infinity)")
	}
}

// TestAdd: P8.2, all kinds of points, each to each: among them each to itself, to
// its negative, and to those with the same Y.
func TestAdd(t *testing.T) {
	t.Parallel()
	all := points()
	for _, s := range all {
		for _, u := range all {
			sum, why := one.Add(s.put(), u.put())
			check(t, "Add", sum, why, s.plus(u).put(), s.put(), u.put())
		}
		sum, why := one.Add(s.put(), s.negative().put())
		check(t, "Add", sum, why, api.G1{Inf: true}, s.put())
	}
}

// TestAddMany: P8.2, ordinary points.
func TestAddMany(t *testing.T) {
	t.Parallel()
	s := gen()
	for _, u := range strays(200) {
		sum, why := one.Add(s.put(), u.put())
		check(t, "Add", sum, why, s.plus(u).put(), s.put(), u.put())
		s = s.plus(u)
	}
}

// TestAddEdges: P8.2, written out.
func TestAddEdges(t *testing.T) {
	zero, g := api.G1{Inf: true}, gen().put()
	up, down := api.G1{Y: api.Fp{2}}, api.G1{Y: whole(plus(prime, -2))}
	rows := []struct{ a, b, want api.G1 }{
		{zero, zero, zero}, {zero, g, g}, {g, zero, g}, {zero, up, up}, {down, zero, down},
		{up, up, down}, {down, down, up}, {up, down, zero}, {down, up, zero},
		{g, gen().negative().put(), zero}, {g, gen().turned().put(), gen().turned().turned().negative().put()},
	}
	for _, row := range rows {
		sum, why := one.Add(row.a, row.b)
		check(t, "Add", sum, why, row.want, row.a, row.b)
	}
}

// TestNeg: P8.2.
func TestNeg(t *testing.T) {
	for _, s := range points() {
		negative, why := one.Neg(s.put())
		check(t, "Neg", negative, why, s.negative().put(), s.put())
		check(t, "Neg of Neg", neg(t, negative), api.OK, s.put(), s.put())
	}
	negative, why := one.Neg(api.G1{Inf: true})
	check(t, "Neg", negative, why, api.G1{Inf: true})
	negative, why = one.Neg(api.G1{Y: api.Fp{2}})
	check(t, "Neg", negative, why, api.G1{Y: whole(plus(prime, -2))})
}

// TestErrCurve: P8.2 and P8.3, either argument, and both.
func TestErrCurve(t *testing.T) {
	good := []api.G1{{Inf: true}, gen().put(), strays(1)[0].put()}
	for _, bad := range wrongs() {
		for _, a := range good {
			sum, why := one.Add(a, bad)
			expectErrCurve(t, "Add", sum, why, a, bad)
			sum, why = one.Add(bad, a)
			expectErrCurve(t, "Add", sum, why, bad, a)
		}
		sum, why := one.Add(bad, bad)
		expectErrCurve(t, "Add", sum, why, bad, bad)
		negative, why := one.Neg(bad)
		expectErrCurve(t, "Neg", negative, why, bad)
		for _, k := range numbers() {
			sum, why := one.Mul(bad, often(k))
			expectErrCurve(t, "Mul", sum, why, bad, k)
		}
	}
}

// TestMul: P8.3, all kinds of points, as often as each number says.
func TestMul(t *testing.T) {
	t.Parallel()
	for _, s := range points() {
		for _, k := range numbers() {
			sum, why := one.Mul(s.put(), often(k))
			check(t, "Mul", sum, why, s.times(k).put(), s.put(), k)
		}
	}
}

// TestMulSmall: P8.3, one by one.
func TestMulSmall(t *testing.T) {
	for _, s := range points() {
		sum := spot{}
		for k := range int64(40) {
			got, why := one.Mul(s.put(), often(big.NewInt(k)))
			check(t, "Mul", got, why, sum.put(), s.put(), k)
			sum = sum.plus(s)
		}
	}
}

// TestMulEdges: P8.3, written out. Of a point that is not of the group r is not
// taken for 0, nor r + 1 for 1.
func TestMulEdges(t *testing.T) {
	zero, g := api.G1{Inf: true}, gen().put()
	up, down := api.G1{Y: api.Fp{2}}, api.G1{Y: whole(plus(prime, -2))}
	// r leaves 1, divided by 3; 2^256 - 1 leaves 0.
	rows := []struct {
		a    api.G1
		k    *big.Int
		want api.G1
	}{
		{g, big.NewInt(0), zero}, {g, big.NewInt(1), g}, {g, plus(order, -1), gen().negative().put()},
		{g, order, zero}, {g, plus(order, 1), g}, {zero, plus(twoTo(256), -1), zero}, {zero, big.NewInt(0), zero},
		{up, big.NewInt(0), zero}, {up, big.NewInt(1), up}, {up, big.NewInt(2), down}, {up, big.NewInt(3), zero},
		{up, plus(order, -1), zero}, {up, order, up}, {up, plus(order, 1), down}, {up, plus(twoTo(256), -1), zero},
	}
	for _, row := range rows {
		sum, why := one.Mul(row.a, often(row.k))
		check(t, "Mul", sum, why, row.want, row.a, row.k)
	}
	for _, s := range ungrouped() {
		if mul(t, s.put(), often(order)) == zero || mul(t, s.put(), often(plus(order, 1))) == s.put() {
			t.Errorf("Mul of %v, modulo r", s.put())
		}
	}
}

// checkOrders adds three points in all orders and groupings.
func checkOrders(t *testing.T, a, b, c api.G1) {
	t.Helper()
	want := from(a).plus(from(b)).plus(from(c)).put()
	for _, l := range [][3]api.G1{{a, b, c}, {a, c, b}, {b, a, c}, {b, c, a}, {c, a, b}, {c, b, a}} {
		check(t, "(a + b) + c", add(t, add(t, l[0], l[1]), l[2]), api.OK, want, l)
		check(t, "a + (b + c)", add(t, l[0], add(t, l[1], l[2])), api.OK, want, l)
	}
}

// TestAnyOrder: P8.4, also where the sum of two is at infinity, is the third
// point, or its negative.
func TestAnyOrder(t *testing.T) {
	t.Parallel()
	s := rand.New(rand.NewSource(3))
	all := points()
	some := func() api.G1 { return all[s.Intn(len(all))].put() }
	for range 40 {
		a, b := some(), some()
		sum := add(t, a, b)
		checkOrders(t, a, b, some())
		checkOrders(t, a, b, sum)
		checkOrders(t, a, b, neg(t, sum))
		checkOrders(t, a, neg(t, a), b)
		checkOrders(t, a, a, b)
		checkOrders(t, a, a, neg(t, add(t, a, a)))
	}
}

// TestTimesAddUp: P8.4, numbers whose sum and product are as they are.
func TestTimesAddUp(t *testing.T) {
	t.Parallel()
	s := rand.New(rand.NewSource(4))
	for _, point := range points() {
		a := point.put()
		k, l := new(big.Int).Rand(s, twoTo(255)), new(big.Int).Rand(s, twoTo(255))
		sum := add(t, mul(t, a, often(k)), mul(t, a, often(l)))
		check(t, "k and l", mul(t, a, often(new(big.Int).Add(k, l))), api.OK, sum, a, k, l)
		k, l = new(big.Int).Rand(s, twoTo(128)), new(big.Int).Rand(s, twoTo(128))
		product := mul(t, mul(t, a, often(k)), often(l))
		check(t, "k times l", mul(t, a, often(new(big.Int).Mul(k, l))), api.OK, product, a, k, l)
		b := points()[s.Intn(len(points()))].put()
		both := add(t, mul(t, a, often(k)), mul(t, b, often(k)))
		check(t, "k of a sum", mul(t, add(t, a, b), often(k)), api.OK, both, a, b, k)
		check(t, "k of the negative", mul(t, neg(t, a), often(k)), api.OK, neg(t, mul(t, a, often(k))), a, k)
	}
}

// TestModuloR: P8.4, points of the group alone.
func TestModuloR(t *testing.T) {
	t.Parallel()
	all := numbers()
	for i, s := range grouped() {
		a := s.put()
		for j, n := range all {
			k, l := often(n), often(all[(i+j)%len(all)])
			check(t, "k modulo r", mul(t, a, k), api.OK, mul(t, a, fr.Clean(k)), a, n)
			if j%4 == i%4 {
				sum := add(t, mul(t, a, k), mul(t, a, l))
				check(t, "k and l", mul(t, a, fr.Add(k, l)), api.OK, sum, a, k, l)
				product := mul(t, mul(t, a, k), l)
				check(t, "k times l", mul(t, a, fr.Mul(k, l)), api.OK, product, a, k, l)
			}
		}
	}
}
