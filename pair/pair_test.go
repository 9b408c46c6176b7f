package pair_test

import (
	"math/big"
	"math/rand"
	"slices"
	"testing"

	"chirograph/api"
	"chirograph/fr"
	"chirograph/full"
	"chirograph/one"
	"chirograph/pair"
	"chirograph/two"
)

func some(s *rand.Rand) *big.Int { return new(big.Int).Rand(s, order) }

// forEach runs a test of each of many, all at one time: what each takes is long.
func forEach[T any](t *testing.T, all []T, test func(t *testing.T, x T)) {
	t.Parallel()
	for _, x := range all {
		t.Run("", func(t *testing.T) {
			t.Parallel()
			test(t, x)
		})
	}
}

func paired(t *testing.T, a api.G1, b api.G2) api.Fp12 {
	t.Helper()
	f, why := pair.Pair(a, b)
	if why != api.OK {
		t.Fatalf("Pair of %v and %v: %d", a, b, why)
	}
	for _, n := range numbers(f) {
		if value(n).Cmp(prime) >= 0 {
			t.Fatalf("Pair of %v and %v = %x: not below p", a, b, f)
		}
	}
	return f
}

func expectPair(t *testing.T, a api.G1, b api.G2, want api.Fp12) {
	t.Helper()
	if got := paired(t, a, b); got != want {
		t.Errorf("Pair of %v and %v = %x, not %x", a, b, got, want)
	}
}

func expectNoPair(t *testing.T, a api.G1, b api.G2, want api.Errno) {
	t.Helper()
	if got, why := pair.Pair(a, b); why != want || got != (api.Fp12{}) {
		t.Errorf("Pair of %v and %v = %x, %d, not %d", a, b, got, why, want)
	}
}

// lists are what Check takes.
type lists struct {
	as []api.G1
	bs []api.G2
}

// same are so many pairs of the same points.
func same(n int, a api.G1, b api.G2) lists {
	return lists{slices.Repeat([]api.G1{a}, n), slices.Repeat([]api.G2{b}, n)}
}

// with is a list with another pair at a place.
func (l lists) with(place int, a api.G1, b api.G2) lists {
	l.as, l.bs = slices.Clone(l.as), slices.Clone(l.bs)
	l.as[place], l.bs[place] = a, b
	return l
}

func expectCheck(t *testing.T, name string, l lists, want bool) {
	t.Helper()
	if got, why := pair.Check(l.as, l.bs); got != want || why != api.OK {
		t.Errorf("%s: Check of %d pairs is %v, %d", name, len(l.as), got, why)
	}
}

func expectNoCheck(t *testing.T, name string, l lists, want api.Errno) {
	t.Helper()
	if got, why := pair.Check(l.as, l.bs); got || why != want {
		t.Errorf("%s: Check of %d and %d points is %v, %d, not %d", name, len(l.as), len(l.bs), got, why, want)
	}
}

// knownNumbers are those of the generators' pairing. They were found apart from
// this program, by the chapter's words.
func knownNumbers() []string {
	return []string{
		"11619B45F61EDFE3B47A15FAC19442526FF489DCDA25E59121D9931438907DFD448299A87DDE3A649BDBA96E84D54558",
		"153CE14A76A53E205BA8F275EF1137C56A566F638B52D34BA3BF3BF22F277D70F76316218C0DFD583A394B8448D2BE7F",
		"095668FB4A02FE930ED44767834C915B283B1C6CA98C047BD4C272E9AC3F3BA6FF0B05A93E59C71FBA77BCE995F04692",
		"16DEEDAA683124FE7260085184D88F7D036B86F53BB5B7F1FC5E248814782065413E7D958D17960109EA006B2AFDEB5F",
		"09C92CF02F3CD3D2F9D34BC44EEE0DD50314ED44CA5D30CE6A9EC0539BE7A86B121EDC61839CCC908C4BDDE256CD6048",
		"111061F398EFC2A97FF825B04D21089E24FD8B93A47E41E60EAE7E9B2A38D54FA4DEDCED0811C34CE528781AB9E929C7",
		"01ECFCF31C86257AB00B4709C33F1C9C4E007659DD5FFC4A735192167CE197058CFB4C94225E7F1B6C26AD9BA68F63BC",
		"08890726743A1F94A8193A166800B7787744A8AD8E2F9365DB76863E894B7A11D83F90D873567E9D645CCF725B32D26F",
		"0E61C752414CA5DFD258E9606BAC08DAEC29B3E2C57062669556954FB227D3F1260EEDF25446A086B0844BCD43646C10",
		"0FE63F185F56DD29150FC498BBEEA78969E7E783043620DB33F75A05A0A2CE5C442BEAFF9DA195FF15164C00AB66BDDE",
		"10900338A92ED0B47AF211636F7CFDEC717B7EE43900EEE9B5FC24F0000C5874D4801372DB478987691C566A8C474978",
		"1454814F3085F0E6602247671BC408BBCE2007201536818C901DBD4D2095DD86C1EC8B888E59611F60A301AF7776BE3D",
	}
}

// TestKnown: P12.1, written out.
func TestKnown(t *testing.T) {
	t.Parallel()
	var want twelve
	for i, digits := range knownNumbers() {
		want[i] = whole(hex(digits))
	}
	expectPair(t, one.Gen(), two.Gen(), want.put())
}

// TestPair: P12.1, points of the groups, by the chapter's own words.
func TestPair(t *testing.T) {
	s := rand.New(rand.NewSource(1))
	last := plus(order, -1)
	rows := []struct{ a, b *big.Int }{
		{big.NewInt(1), big.NewInt(1)}, {last, big.NewInt(1)}, {big.NewInt(1), last}, {last, last},
		{big.NewInt(2), big.NewInt(3)}, {parameter, big.NewInt(1)}, {big.NewInt(1), parameter},
	}
	for range 5 {
		rows = append(rows, struct{ a, b *big.Int }{some(s), some(s)})
	}
	forEach(t, rows, func(t *testing.T, row struct{ a, b *big.Int }) {
		a, b := g1(row.a), g2(row.b)
		expectPair(t, a, b, told(a, b))
	})
}

// TestPairAtInfinity: P12.1, one point of both, and both.
func TestPairAtInfinity(t *testing.T) {
	t.Parallel()
	unit := twelve{{1}}.put()
	for _, k := range []int64{1, 2, 77} {
		expectPair(t, one.Zero(), small2(k), unit)
		expectPair(t, small1(k), two.Zero(), unit)
	}
	expectPair(t, one.Zero(), two.Zero(), unit)
}

// TestErrCurve: P12.1, either point, beside points of all kinds.
func TestErrCurve(t *testing.T) {
	t.Parallel()
	outside1, outside2 := ungrouped1(), ungrouped2()
	as := []api.G1{one.Zero(), one.Gen(), outside1[0], outside1[3], {}}
	bs := []api.G2{two.Zero(), two.Gen(), outside2[0], outside2[3], {}}
	for _, a := range wrong1() {
		for _, b := range bs {
			expectNoPair(t, a, b, api.ErrCurve)
			expectNoCheck(t, "a wrong point", same(1, a, b), api.ErrCurve)
		}
	}
	for _, b := range wrong2() {
		for _, a := range as {
			expectNoPair(t, a, b, api.ErrCurve)
			expectNoCheck(t, "a wrong point", same(1, a, b), api.ErrCurve)
		}
	}
}

// TestErrGroup: P12.1, either point, or both, also beside one at infinity.
func TestErrGroup(t *testing.T) {
	t.Parallel()
	outside1, outside2 := ungrouped1(), ungrouped2()
	for _, a := range outside1 {
		for _, b := range []api.G2{two.Zero(), two.Gen(), outside2[1], outside2[4]} {
			expectNoPair(t, a, b, api.ErrGroup)
			expectNoCheck(t, "a point outside", same(1, a, b), api.ErrGroup)
		}
	}
	for _, b := range outside2 {
		for _, a := range []api.G1{one.Zero(), one.Gen()} {
			expectNoPair(t, a, b, api.ErrGroup)
			expectNoCheck(t, "a point outside", same(1, a, b), api.ErrGroup)
		}
	}
}

// TestExamples: the chapter's.
func TestExamples(t *testing.T) {
	t.Parallel()
	g, h := one.Gen(), two.Gen()
	back := sure(one.Neg(g))
	expectCheck(t, "opposite", lists{[]api.G1{g, back}, []api.G2{h, h}}, true)
	expectCheck(t, "the generators", same(1, g, h), false)
	expectCheck(t, "none", lists{}, true)
	expectPair(t, one.Zero(), h, full.One())
}

// TestCheckNone: P12.2 and R3, no pairs, or none that add anything.
func TestCheckNone(t *testing.T) {
	t.Parallel()
	for _, as := range [][]api.G1{nil, {}} {
		for _, bs := range [][]api.G2{nil, {}} {
			expectCheck(t, "none", lists{as, bs}, true)
		}
	}
	for _, n := range []int{1, 2, 64} {
		expectCheck(t, "both at infinity", same(n, one.Zero(), two.Zero()), true)
	}
	expectCheck(t, "the first at infinity", same(3, one.Zero(), two.Gen()), true)
	expectCheck(t, "the second at infinity", same(3, one.Gen(), two.Zero()), true)
	expectCheck(t, "one of each", lists{[]api.G1{one.Zero(), one.Gen()}, []api.G2{two.Gen(), two.Zero()}}, true)
}

// closed are n pairs whose product is 1: what the generators' pairing has as often
// as both numbers of all pairs but the last say, the last one takes off.
func closed(s *rand.Rand, n int) lists {
	var l lists
	left := new(big.Int)
	for range n - 1 {
		k, m := some(s), some(s)
		l.as, l.bs = append(l.as, g1(k)), append(l.bs, g2(m))
		left.Sub(left, k.Mul(k, m))
	}
	m := some(s)
	left.Mul(left, new(big.Int).ModInverse(m, order))
	return lists{append(l.as, g1(left.Mod(left, order))), append(l.bs, g2(m))}
}

// TestCheck: P12.2, products that are 1, and others that are nearly so.
func TestCheck(t *testing.T) {
	forEach(t, []int{2, 3, 5}, func(t *testing.T, n int) {
		s := rand.New(rand.NewSource(int64(n)))
		l := closed(s, n)
		expectCheck(t, "closed", l, true)
		for place := range n {
			a, b := l.as[place], l.bs[place]
			expectCheck(t, "a step in the first", l.with(place, sure(one.Add(a, one.Gen())), b), false)
			expectCheck(t, "a step in the second", l.with(place, a, sure(two.Add(b, two.Gen()))), false)
			expectCheck(t, "a negative", l.with(place, sure(one.Neg(a)), b), false)
			expectCheck(t, "one at infinity", l.with(place, a, two.Zero()), false)
			expectCheck(t, "one left out", lists{slices.Delete(slices.Clone(l.as), place, place+1), slices.Delete(slices.Clone(l.bs), place, place+1)}, false)
			both := l.with(place, sure(one.Neg(a)), sure(two.Neg(b)))
			expectCheck(t, "both negatives", both, true)
		}
		turned := lists{l.as, append(slices.Clone(l.bs[1:]), l.bs[0])}
		expectCheck(t, "others beside others", turned, false)
	})
}

// TestCheckOrder: P12.2, pairs in another order, and with pairs at infinity between.
func TestCheckOrder(t *testing.T) {
	t.Parallel()
	s := rand.New(rand.NewSource(2))
	l := closed(s, 5)
	for range 3 {
		s.Shuffle(5, func(i, j int) {
			l.as[i], l.as[j] = l.as[j], l.as[i]
			l.bs[i], l.bs[j] = l.bs[j], l.bs[i]
		})
		expectCheck(t, "another order", l, true)
		place := s.Intn(6)
		more := lists{slices.Insert(slices.Clone(l.as), place, one.Zero()), slices.Insert(slices.Clone(l.bs), place, two.Gen())}
		expectCheck(t, "one at infinity between", more, true)
		expectCheck(t, "one that is not", more.with(place, one.Gen(), two.Gen()), false)
	}
}

// TestCheckPairs: P12.2, held against the product of what Pair answers.
func TestCheckPairs(t *testing.T) {
	rows := [][4]int64{{2, 3, 6, 1}, {2, 3, 1, 6}, {2, 3, 5, 1}, {4, 4, 8, 2}, {1, 9, 3, 3}, {1, 9, 3, 2}, {5, 5, 5, 5}}
	forEach(t, rows, func(t *testing.T, row [4]int64) {
		a, b, c, d := small1(row[0]), small2(row[1]), sure(one.Neg(small1(row[2]))), small2(row[3])
		want := row[0]*row[1] == row[2]*row[3]
		product := full.Mul(paired(t, a, b), paired(t, c, d))
		if (product == full.One()) != want {
			t.Errorf("the product of %d is %x", row, product)
		}
		expectCheck(t, "two pairs", lists{[]api.G1{a, c}, []api.G2{b, d}}, want)
	})
}

// TestCheckMost: P12.2, as many pairs as may be, and how many there are.
func TestCheckMost(t *testing.T) {
	l := closed(rand.New(rand.NewSource(3)), 64)
	forEach(t, []int{-1, 0, 31, 63}, func(t *testing.T, place int) {
		if place < 0 {
			expectCheck(t, "as many as may be", l, true)
			return
		}
		expectCheck(t, "one more step", l.with(place, l.as[place], sure(two.Add(l.bs[place], two.Gen()))), false)
	})
}

// TestErrLen: P12.2, either list the longer one, ahead of all other errors.
func TestErrLen(t *testing.T) {
	t.Parallel()
	as := []api.G1{one.Gen(), one.Zero(), ungrouped1()[0], {}}
	bs := []api.G2{two.Gen(), two.Zero(), ungrouped2()[0], {}}
	for i := range as {
		for _, n := range []int{1, 2, 63, 64, 65, 66, 1000} {
			l := same(n, as[i], bs[i])
			expectNoCheck(t, "one less of the second", lists{l.as, l.bs[1:]}, api.ErrLen)
			expectNoCheck(t, "one less of the first", lists{l.as[1:], l.bs}, api.ErrLen)
			expectNoCheck(t, "none of the second", lists{l.as, nil}, api.ErrLen)
			expectNoCheck(t, "none of the first", lists{nil, l.bs}, api.ErrLen)
		}
	}
}

// TestErrLong: P12.2, ahead of the pairs' errors.
func TestErrLong(t *testing.T) {
	t.Parallel()
	outside1, outside2 := ungrouped1(), ungrouped2()
	for _, n := range []int{65, 66, 128, 4096} {
		expectNoCheck(t, "right ones", same(n, one.Gen(), two.Gen()), api.ErrLong)
		expectNoCheck(t, "at infinity", same(n, one.Zero(), two.Zero()), api.ErrLong)
		expectNoCheck(t, "wrong ones", same(n, api.G1{}, api.G2{}), api.ErrLong)
		expectNoCheck(t, "outside", same(n, outside1[0], outside2[0]), api.ErrLong)
	}
	expectNoCheck(t, "as many as may be, none right", same(64, api.G1{}, api.G2{}), api.ErrCurve)
}

// TestFirstError: P12.2, of the first pair that has one, whichever it is; of that
// pair it is Pair's.
func TestFirstError(t *testing.T) {
	t.Parallel()
	g, h, u1, u2, w1, w2 := one.Gen(), two.Gen(), ungrouped1()[1], ungrouped2()[1], wrong1()[4], wrong2()[4]
	rows := []struct {
		a    api.G1
		b    api.G2
		want api.Errno
	}{
		{u1, h, api.ErrGroup}, {g, u2, api.ErrGroup}, {u1, u2, api.ErrGroup}, {u1, two.Zero(), api.ErrGroup}, {one.Zero(), u2, api.ErrGroup},
		{w1, h, api.ErrCurve}, {g, w2, api.ErrCurve}, {w1, u2, api.ErrCurve}, {u1, w2, api.ErrCurve}, {one.Zero(), w2, api.ErrCurve}, {w1, two.Zero(), api.ErrCurve},
	}
	right := same(4, g, h).with(1, one.Zero(), h)
	for i, row := range rows {
		for place := range 4 {
			expectNoCheck(t, "one that is wrong", right.with(place, row.a, row.b), row.want)
		}
		other := rows[(i+6)%len(rows)]
		expectNoCheck(t, "the first", right.with(1, row.a, row.b).with(2, other.a, other.b), row.want)
		expectNoCheck(t, "the second", right.with(3, row.a, row.b).with(2, other.a, other.b), other.want)
	}
	expectNoCheck(t, "the last", same(64, one.Zero(), two.Zero()).with(63, u1, h), api.ErrGroup)
	// All but the wrong pair make 1.
	opposite := lists{[]api.G1{g, sure(one.Neg(g)), u1}, []api.G2{h, h, h}}
	expectNoCheck(t, "behind those that make 1", opposite, api.ErrGroup)
}

// TestPowers: P12.3, points as often as numbers say that are at their edges, and any.
func TestPowers(t *testing.T) {
	s := rand.New(rand.NewSource(4))
	most := plus(twoTo(256), -1)
	rows := [][2]*big.Int{
		{big.NewInt(0), big.NewInt(5)}, {big.NewInt(5), big.NewInt(0)}, {order, big.NewInt(3)}, {big.NewInt(3), order},
		{plus(order, 1), plus(order, -1)}, {most, most}, {most, big.NewInt(1)}, {big.NewInt(1), most},
		{big.NewInt(2), big.NewInt(2)}, {twoTo(64), twoTo(128)}, {parameter, parameter},
	}
	for range 5 {
		rows = append(rows, [2]*big.Int{some(s), some(s)})
	}
	forEach(t, rows, func(t *testing.T, row [2]*big.Int) {
		s := rand.New(rand.NewSource(5))
		k, l := often(row[0]), often(row[1])
		product := fr.Mul(k, l)
		var e api.Fp
		copy(e[:], product[:])
		for _, a := range []api.G1{one.Gen(), g1(some(s))} {
			b := g2(some(s))
			want := full.Pow(paired(t, a, b), e)
			expectPair(t, sure(one.Mul(a, k)), sure(two.Mul(b, l)), want)
			expectPair(t, sure(one.Mul(a, product)), b, want)
			expectPair(t, a, sure(two.Mul(b, product)), want)
		}
	})
}

// TestSums: P12.3, in either group.
func TestSums(t *testing.T) {
	forEach(t, []int64{1, 2, 3, 4}, func(t *testing.T, seed int64) {
		s := rand.New(rand.NewSource(seed))
		a, b, c, d := g1(some(s)), g1(some(s)), g2(some(s)), g2(some(s))
		expectPair(t, sure(one.Add(a, b)), c, full.Mul(paired(t, a, c), paired(t, b, c)))
		expectPair(t, a, sure(two.Add(c, d)), full.Mul(paired(t, a, c), paired(t, a, d)))
		expectPair(t, sure(one.Add(a, a)), c, full.Mul(paired(t, a, c), paired(t, a, c)))
		opposite := paired(t, sure(one.Neg(a)), c)
		expectPair(t, a, sure(two.Neg(c)), opposite)
		if full.Mul(opposite, paired(t, a, c)) != full.One() || opposite != full.Conj(paired(t, a, c)) {
			t.Errorf("the pairing of %v and %v, and of the negative", a, c)
		}
	})
}

// TestPowerOfR: P12.3, it is 1, but no pairing of points that are not at infinity is.
func TestPowerOfR(t *testing.T) {
	forEach(t, []int64{0, 1, 2, 3}, func(t *testing.T, seed int64) {
		s := rand.New(rand.NewSource(seed))
		a, b := one.Gen(), two.Gen()
		if seed > 0 {
			a, b = g1(some(s)), g2(some(s))
		}
		f := paired(t, a, b)
		if f == full.One() {
			t.Errorf("the pairing of %v and %v is 1", a, b)
		}
		if power := full.Pow(f, whole(order)); power != full.One() {
			t.Errorf("the pairing of %v and %v to the power of r is %x", a, b, power)
		}
	})
}

// TestLists: R1 and R4, the lists stay as they are, and so does what is answered.
func TestLists(t *testing.T) {
	t.Parallel()
	s := rand.New(rand.NewSource(6))
	l := closed(s, 3)
	// What stands behind the lists is not theirs.
	l.as, l.bs = append(l.as, one.Gen())[:3], append(l.bs, two.Gen())[:3]
	as, bs := slices.Clone(l.as[:4]), slices.Clone(l.bs[:4])
	want := paired(t, as[0], bs[0])
	for range 2 {
		expectCheck(t, "once more", l, true)
		expectPair(t, as[0], bs[0], want)
		expectNoCheck(t, "wrong ones between", same(2, api.G1{}, api.G2{}), api.ErrCurve)
		expectCheck(t, "others between", lists{as, bs}, false)
	}
	if !slices.Equal(l.as[:4], as) || !slices.Equal(l.bs[:4], bs) {
		t.Error("lists are changed")
	}
}
