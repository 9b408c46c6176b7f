package sum_test

import (
	"math"
	"math/big"
	"math/rand"
	"slices"
	"testing"

	"chirograph/api"
	"chirograph/fr"
	"chirograph/one"
	"chirograph/sum"
)

// TestExamples: the chapter's.
func TestExamples(t *testing.T) {
	g := one.Gen()
	c := first()
	c.expect(t, "none", nil, nil, api.G1{Inf: true})
	c.expect(t, "0 times", []api.G1{g}, []api.Fr{{}}, api.G1{Inf: true})
	c.expect(t, "2 and 3 times", []api.G1{g, g}, []api.Fr{{2}, {3}}, sure(one.Mul(g, api.Fr{5})))
	want := []api.G1{g, sure(one.Mul(g, api.Fr{2})), sure(one.Mul(g, api.Fr{4}))}
	if all, why := sum.Powers(g, api.Fr{2}, 3); why != api.OK || !slices.Equal(all, want) {
		t.Errorf("Powers = %v, %d", all, why)
	}
}

// TestFew: P11.1, none, one and two points, of the group and not, as often as each
// number says, which is not taken modulo r.
func TestFew(t *testing.T) { forBoth(t, testFew[api.G1], testFew[api.G2]) }

func testFew[P comparable](t *testing.T, c curve[P]) {
	for _, none := range [][]P{nil, {}} {
		c.expect(t, "none", none, nil, c.zero)
		c.expect(t, "none", none, []api.Fr{}, c.zero)
	}
	s := rand.New(rand.NewSource(1))
	for i, k := range edges() {
		for _, a := range []P{c.zero, c.gen, c.ungrouped[i%len(c.ungrouped)]} {
			ks := []api.Fr{often(k), often(new(big.Int).Rand(s, twoTo(256)))}
			c.expect(t, "one", []P{a}, ks[:1], sure(c.mul(a, ks[0])))
			b := c.ungrouped[(i+1)%len(c.ungrouped)]
			c.expect(t, "two", []P{a, b}, ks, c.inTurn([]P{a, b}, ks))
		}
	}
}

// TestMany: P11.1, rows of all lengths, whose numbers are of all kinds.
func TestMany(t *testing.T) { forBoth(t, testMany[api.G1], testMany[api.G2]) }

func testMany[P comparable](t *testing.T, c curve[P]) {
	s := rand.New(rand.NewSource(2))
	many := []int{63, 64, 65, 127, 128, 129, 256}
	for n := range 34 {
		many = append(many, n+1)
	}
	for _, n := range many {
		points, times := c.row(s, n)
		ks := amounts(s, n)
		c.expect(t, "a row", points, numbers(ks), c.told(times, ks))
	}
}

// TestLengths: P11.1, numbers of each length, all 1s or a 1 alone, so that each bit
// is at each place of a digit.
func TestLengths(t *testing.T) { forBoth(t, testLengths[api.G1], testLengths[api.G2]) }

func testLengths[P comparable](t *testing.T, c curve[P]) {
	s := rand.New(rand.NewSource(3))
	points, times := c.row(s, 40)
	for _, n := range []uint{0, 1, 2, 3, 4, 5, 7, 8, 31, 63, 64, 65, 66, 67, 127, 128, 129, 130, 131, 191, 192, 193, 194, 195, 254, 255} {
		for _, k := range []*big.Int{twoTo(n), most(n + 1)} {
			ks := slices.Repeat([]*big.Int{{}}, len(points))
			for i := range 5 {
				ks[7*i+int(n)%7] = k
			}
			c.expect(t, "one length", points, numbers(ks), c.told(times, ks))
		}
	}
	ks := amounts(s, len(points))
	for i := range ks {
		ks[i] = new(big.Int).Rsh(ks[i], uint(7*i))
	}
	c.expect(t, "all lengths", points, numbers(ks), c.told(times, ks))
}

// TestUngrouped: P11.1, rows of points not of the group alone, and of all kinds.
func TestUngrouped(t *testing.T) { forBoth(t, testUngrouped[api.G1], testUngrouped[api.G2]) }

func testUngrouped[P comparable](t *testing.T, c curve[P]) {
	s := rand.New(rand.NewSource(4))
	kinds := append([]P{c.zero, c.gen, sure(c.neg(c.gen))}, c.ungrouped...)
	for _, n := range []int{5, 11, 12, 31, 32, 50} {
		ks := numbers(amounts(s, n))
		var all, ungrouped []P
		for i := range n {
			all = append(all, kinds[s.Intn(len(kinds))])
			ungrouped = append(ungrouped, c.ungrouped[i%len(c.ungrouped)])
		}
		c.expect(t, "all kinds", all, ks, c.inTurn(all, ks))
		c.expect(t, "not of the group", ungrouped, ks, c.inTurn(ungrouped, ks))
	}
	// r, which is 0 to points of the group alone.
	for _, n := range []int{1, 40} {
		for _, a := range c.ungrouped[:2] {
			points, ks := slices.Repeat([]P{c.gen}, n), slices.Repeat([]api.Fr{often(order)}, n)
			c.expect(t, "r times", points, ks, c.zero)
			points[n/2] = a
			c.expect(t, "r times", points, ks, sure(c.mul(a, often(order))))
		}
	}
}

// TestErrors: P11.1, either error alone, and which comes first.
func TestErrors(t *testing.T) { forBoth(t, testErrors[api.G1], testErrors[api.G2]) }

func testErrors[P comparable](t *testing.T, c curve[P]) {
	points := func(n int) []P { return slices.Repeat([]P{c.gen}, n) }
	ks := func(n int) []api.Fr { return make([]api.Fr, n) }
	bad := func(n int) []P { return slices.Repeat(c.wrong[:1], n) }
	for _, n := range []int{1, 2, 12, 40, 4096, 4097} {
		c.expectError(t, "a point more", points(n), ks(n-1), api.ErrLen)
		c.expectError(t, "a number more", points(n-1), ks(n), api.ErrLen)
		c.expectError(t, "a point more, none right", bad(n), ks(n-1), api.ErrLen)
		c.expectError(t, "no numbers", points(n), nil, api.ErrLen)
		c.expectError(t, "no points", nil, ks(n), api.ErrLen)
	}
	for _, n := range []int{4097, 4098, 8192} {
		c.expectError(t, "too many", points(n), ks(n), api.ErrLong)
		c.expectError(t, "too many at infinity", slices.Repeat([]P{c.zero}, n), ks(n), api.ErrLong)
		c.expectError(t, "too many, none right", bad(n), ks(n), api.ErrLong)
	}
	c.expectError(t, "too many points", points(4098), ks(4097), api.ErrLen)
	c.expectError(t, "as many as may be, none right", bad(4096), ks(4096), api.ErrCurve)
}

// TestErrCurve: P11.1, a wrong point of each kind at each place, whatever its number.
func TestErrCurve(t *testing.T) { forBoth(t, testErrCurve[api.G1], testErrCurve[api.G2]) }

func testErrCurve[P comparable](t *testing.T, c curve[P]) {
	for _, a := range c.wrong {
		for _, n := range []int{1, 2, 3, 12, 40} {
			for _, place := range []int{0, n / 2, n - 1} {
				points := slices.Repeat([]P{c.gen}, n)
				points[place] = a
				for _, k := range []api.Fr{{}, {1}, often(order)} {
					c.expectError(t, "a wrong point", points, slices.Repeat([]api.Fr{k}, n), api.ErrCurve)
				}
			}
		}
	}
}

// TestMost: P11.1, as many points as may be.
func TestMost(t *testing.T) { forBoth(t, testMost[api.G1], testMost[api.G2]) }

func testMost[P comparable](t *testing.T, c curve[P]) {
	s := rand.New(rand.NewSource(5))
	points, times := c.row(s, api.MaxPoints)
	var ks []*big.Int
	for range points {
		ks = append(ks, big.NewInt(s.Int63n(1<<10)))
	}
	ks[17], ks[4095] = most(256), twoTo(130)
	c.expect(t, "as many as may be", points, numbers(ks), c.told(times, ks))
	c.expect(t, "as many 0s", points, make([]api.Fr, api.MaxPoints), c.zero)
	c.expect(t, "as many at infinity", slices.Repeat([]P{c.zero}, api.MaxPoints), numbers(ks), c.zero)
}

// TestAnyOrder: P11.3.
func TestAnyOrder(t *testing.T) { forBoth(t, testAnyOrder[api.G1], testAnyOrder[api.G2]) }

func testAnyOrder[P comparable](t *testing.T, c curve[P]) {
	s := rand.New(rand.NewSource(6))
	for _, n := range []int{3, 20, 50} {
		points, _ := c.row(s, n)
		copy(points, append(c.ungrouped[:2:2], c.zero))
		ks := numbers(amounts(s, n))
		want := sure(c.sum(points, ks))
		for range 3 {
			s.Shuffle(n, func(i, j int) {
				points[i], points[j] = points[j], points[i]
				ks[i], ks[j] = ks[j], ks[i]
			})
			c.expect(t, "another order", points, ks, want)
		}
		slices.Reverse(points)
		slices.Reverse(ks)
		c.expect(t, "the other way", points, ks, want)
	}
}

// TestNothing: P11.3, points with the number 0, and those at infinity.
func TestNothing(t *testing.T) { forBoth(t, testNothing[api.G1], testNothing[api.G2]) }

func testNothing[P comparable](t *testing.T, c curve[P]) {
	s := rand.New(rand.NewSource(7))
	for _, n := range []int{0, 1, 2, 10, 31, 45} {
		points, _ := c.row(s, n)
		ks := numbers(amounts(s, n))
		want := sure(c.sum(points, ks))
		for i := range 14 {
			place := s.Intn(len(points) + 1)
			a, k := c.zero, often(new(big.Int).Rand(s, twoTo(256)))
			if i%2 == 0 {
				a, k = c.ungrouped[i%len(c.ungrouped)], api.Fr{}
			}
			points, ks = slices.Insert(points, place, a), slices.Insert(ks, place, k)
			if i%4 == 3 {
				c.expect(t, "what adds nothing", points, ks, want)
			}
		}
	}
}

// TestTwoNumbers: P11.3, the same point twice and once; what is not of the group
// with numbers whose sum is below 2^256.
func TestTwoNumbers(t *testing.T) { forBoth(t, testTwoNumbers[api.G1], testTwoNumbers[api.G2]) }

func testTwoNumbers[P comparable](t *testing.T, c curve[P]) {
	s := rand.New(rand.NewSource(8))
	for _, n := range []int{1, 11, 40} {
		points, _ := c.row(s, n)
		all := amounts(s, n+8)
		for i := range 8 {
			k, l, place := often(all[n+i]), often(all[(3*i)%n]), s.Intn(n)
			ks := numbers(all[:n])
			ks[place] = fr.Add(k, l)
			want := sure(c.sum(points, ks))
			ks[place] = k
			c.expect(t, "two numbers", append(points[:n:n], points[place]), append(ks[:n:n], l), want)
		}
		a, k, l := c.ungrouped[n%len(c.ungrouped)], new(big.Int).Rand(s, twoTo(255)), new(big.Int).Rand(s, twoTo(255))
		ks := numbers(all[:n])
		want := sure(c.sum(append(points[:n:n], a), append(ks[:n:n], often(new(big.Int).Add(k, l)))))
		c.expect(t, "two numbers", append(points[:n:n], a, a), append(ks[:n:n], often(k), often(l)), want)
	}
}

// TestSame: P11.3, one point again and again, with one number, or with its negative
// in between, so that what is added up meets itself, its negative and infinity.
func TestSame(t *testing.T) { forBoth(t, testSame[api.G1], testSame[api.G2]) }

func testSame[P comparable](t *testing.T, c curve[P]) {
	for _, n := range []int{2, 11, 12, 32, 130} {
		for _, a := range []P{c.gen, c.ungrouped[0], c.ungrouped[5]} {
			same, turns := slices.Repeat([]P{a}, n), slices.Repeat([]P{a, sure(c.neg(a))}, n/2)
			for _, k := range []*big.Int{big.NewInt(7), twoTo(64), most(248)} {
				ks := slices.Repeat([]api.Fr{often(k)}, n)
				all := new(big.Int).Mul(k, big.NewInt(int64(n)))
				c.expect(t, "the same", same, ks, sure(c.mul(a, often(all))))
				c.expect(t, "the same and its negative", turns, ks[:len(turns)], c.zero)
			}
		}
	}
}

// TestLists: R1 and R4, the lists stay as they are, and so does what is answered.
func TestLists(t *testing.T) { forBoth(t, testLists[api.G1], testLists[api.G2]) }

func testLists[P comparable](t *testing.T, c curve[P]) {
	s := rand.New(rand.NewSource(9))
	for _, n := range []int{1, 20, 60} {
		points, times := c.row(s, n)
		all := amounts(s, n)
		ks := numbers(all)
		kept, keptKs := slices.Clone(points), slices.Clone(ks)
		for range 2 {
			c.expect(t, "once more", points, ks, c.told(times, all))
			c.expectError(t, "in between", c.wrong[:1], ks[:1], api.ErrCurve)
			c.expect(t, "others in between", points[:1], ks[:1], c.told(times[:1], all[:1]))
		}
		if !slices.Equal(points, kept) || !slices.Equal(ks, keptKs) {
			t.Errorf("lists of %d are changed", n)
		}
	}
}

// powers are in the chapter's own words, with the library's numbers.
func powers(a api.G1, k *big.Int, n int) []api.G1 {
	var all []api.G1
	for i := range n {
		all = append(all, sure(one.Mul(a, often(new(big.Int).Exp(k, big.NewInt(int64(i)), order)))))
	}
	return all
}

func expectPowers(t *testing.T, a api.G1, k *big.Int, n int) {
	t.Helper()
	if all, why := sum.Powers(a, often(k), n); why != api.OK || !slices.Equal(all, powers(a, k, n)) {
		t.Errorf("Powers of %v, %d, %d = %v, %d", a, k, n, all, why)
	}
}

// TestPowers: P11.2, points of all kinds, numbers at their edges, and any.
func TestPowers(t *testing.T) {
	t.Parallel()
	s := rand.New(rand.NewSource(10))
	c := first()
	kinds := append([]api.G1{c.zero, c.gen, sure(one.Neg(c.gen))}, c.ungrouped...)
	for i, k := range amounts(s, 60) {
		expectPowers(t, kinds[i%len(kinds)], k, 1+i%7)
	}
	for i, k := range edges() {
		expectPowers(t, c.gen, k, 4)
		expectPowers(t, c.ungrouped[i%len(c.ungrouped)], k, 4)
	}
	expectPowers(t, c.gen, new(big.Int).Rand(s, order), 70)
}

// TestPowersEdges: P11.2, written out: the power 0 of 0 is 1, and powers are taken
// modulo r, whatever the point is.
func TestPowersEdges(t *testing.T) {
	t.Parallel()
	zero, g := one.Zero(), one.Gen()
	back := sure(one.Neg(g))
	// This one is of order 3, and r leaves 1, divided by 3.
	up, down := api.G1{Y: api.Fp{2}}, sure(one.Neg(api.G1{Y: api.Fp{2}}))
	rows := []struct {
		a    api.G1
		k    *big.Int
		want []api.G1
	}{
		{g, big.NewInt(0), []api.G1{g, zero, zero, zero}}, {g, order, []api.G1{g, zero, zero}},
		{g, big.NewInt(1), []api.G1{g, g, g}}, {g, plus(order, 1), []api.G1{g, g, g}},
		{g, plus(order, -1), []api.G1{g, back, g, back}}, {g, big.NewInt(5), []api.G1{g}}, {g, big.NewInt(5), nil},
		{zero, big.NewInt(9), []api.G1{zero, zero, zero}}, {zero, big.NewInt(9), nil},
		{up, big.NewInt(2), []api.G1{up, down, up}}, {up, plus(order, 2), []api.G1{up, down, up}},
		{up, plus(order, -1), []api.G1{up, zero, up}}, {up, order, []api.G1{up, zero}},
	}
	for _, row := range rows {
		if all, why := sum.Powers(row.a, often(row.k), len(row.want)); why != api.OK || !slices.Equal(all, row.want) {
			t.Errorf("Powers of %v, %d = %v, %d", row.a, row.k, all, why)
		}
	}
}

// TestPowersMost: P11.2, as many as may be.
func TestPowersMost(t *testing.T) {
	t.Parallel()
	g := one.Gen()
	all, why := sum.Powers(g, api.Fr{1}, api.MaxPoints)
	if why != api.OK || !slices.Equal(all, slices.Repeat([]api.G1{g}, api.MaxPoints)) {
		t.Errorf("Powers of 1: %d, %d of them", why, len(all))
	}
	all, why = sum.Powers(g, api.Fr{}, 4095)
	if why != api.OK || !slices.Equal(all, append([]api.G1{g}, slices.Repeat([]api.G1{one.Zero()}, 4094)...)) {
		t.Errorf("Powers of 0: %d, %d of them", why, len(all))
	}
}

// TestPowersErrors: P11.2, either error, and which comes first; a wrong point is
// told even if no powers are asked for.
func TestPowersErrors(t *testing.T) {
	t.Parallel()
	expect := func(a api.G1, n int, want api.Errno) {
		t.Helper()
		if all, why := sum.Powers(a, api.Fr{3}, n); why != want || len(all) != 0 {
			t.Errorf("Powers of %v, %d = %v, %d, not %d", a, n, all, why, want)
		}
	}
	for _, n := range []int{-1, -2, -4096, math.MinInt, 4097, 4098, 1 << 32, math.MaxInt} {
		expect(one.Gen(), n, api.ErrArg)
		expect(one.Zero(), n, api.ErrArg)
		expect(api.G1{}, n, api.ErrArg)
	}
	for _, a := range first().wrong {
		for _, n := range []int{0, 1, 2, 4096} {
			expect(a, n, api.ErrCurve)
		}
		expect(a, -1, api.ErrArg)
		expect(a, 4097, api.ErrArg)
	}
}
