package point_test

import (
	"math/big"
	"math/rand"
	"strings"
	"testing"

	"chirograph/api"
	"chirograph/one"
	"chirograph/point"
	"chirograph/two"
)

// forBoth runs a test of either curve, both at one time.
func forBoth(t *testing.T, test1 func(*testing.T, curve[api.G1]), test2 func(*testing.T, curve[api.G2])) {
	t.Parallel()
	t.Run("first", func(t *testing.T) { t.Parallel(); test1(t, first()) })
	t.Run("second", func(t *testing.T) { t.Parallel(); test2(t, second()) })
}

// expect is what Get is to answer of a text: a point, or an error and the zero value.
func expect[P comparable](t *testing.T, c curve[P], s string, want api.Errno, point P) {
	t.Helper()
	var none P
	if want != api.OK {
		point = none
	}
	if got, why := c.get(s); why != want || got != point {
		t.Errorf("Get of %x = %v, %d, not %v, %d", s, got, why, point, want)
	}
}

func expectError[P comparable](t *testing.T, c curve[P], s string, want api.Errno) {
	t.Helper()
	var none P
	expect(t, c, s, want, none)
}

// expectPut is what Put and Wide are to answer: texts, or an error and none.
func expectPut[P comparable](t *testing.T, c curve[P], a P, want api.Errno, short, full string) {
	t.Helper()
	if s, why := c.put(a); why != want || s != short {
		t.Errorf("Put of %v = %x, %d, not %x, %d", a, s, why, short, want)
	}
	if s, why := c.wide(a); why != want || s != full {
		t.Errorf("Wide of %v = %x, %d, not %x, %d", a, s, why, full, want)
	}
}

// repeated is a byte and then as many others of one kind as fill up a text.
func repeated(head byte, rest string, length int) string {
	return string([]byte{head}) + strings.Repeat(rest, length-1)
}

// changed is a text with a byte changed.
func changed(s string, place int, by byte) string {
	b := []byte(s)
	b[place] ^= by
	return string(b)
}

// flagged is a text with those three flags, whatever they were.
func flagged(s string, flags byte) string {
	return changed(s, 0, s[0]&0xE0^flags)
}

// digits are bytes, two digits each.
func digits(parts ...string) string {
	all := strings.Join(parts, "")
	return string(hex(all).FillBytes(make([]byte, len(all)/2)))
}

// The generators' numbers, the chapters' own.
const (
	oneX  = "17F1D3A73197D7942695638C4FA9AC0FC3688C4F9774B905A14E3A3F171BAC586C55E83FF97A1AEFFB3AF00ADB22C6BB"
	oneY  = "08B3F481E3AAA0F1A09E30ED741D8AE4FCF5E095D5D00AF600DB18CB2C04B3EDD03CC744A2888AE40CAA232946C5E7E1"
	twoXA = "024AA2B2F08F0A91260805272DC51051C6E47AD4FA403B02B4510B647AE3D1770BAC0326A805BBEFD48056C8C121BDB8"
	twoXB = "13E02B6052719F607DACD3A088274F65596BD0D09920B61AB5DA61BBDC7F5049334CF11213945D57E5AC7D055D042B7E"
	twoYA = "0CE5D527727D6E118CC9CDC6DA2E351AADFD9BAA8CBDD3A76D429A695160D12C923AC9CC3BACA289E193548608B82801"
	twoYB = "0606C4A02EA734CC32ACD2B02BC28B99CB3E287E85A763AF267492AB572E99AB3F370D275CEC1DA1AAA9075FF05F79BE"
)

// TestPoints is what the tests' own points are: of the group, or of the curve, or not.
func TestPoints(t *testing.T) {
	t.Parallel()
	for _, a := range flat() {
		if (a.Y.A == api.Fp{}) == (a.Y.B == api.Fp{}) {
			t.Errorf("%v has Y with no part 0", a)
		}
	}
	if few := eleven(); few.Inf || !mul1(few, big.NewInt(11)).Inf {
		t.Error("a point of order 11")
	}
	if few := thirteen(); few.Inf || !mul2(few, big.NewInt(13)).Inf {
		t.Error("a point of order 13")
	}
	checkPoints(t, first(), mul1)
	checkPoints(t, second(), mul2)
}

func checkPoints[P comparable](t *testing.T, c curve[P], mul func(P, *big.Int) P) {
	t.Helper()
	zero := c.at(nil)
	var high [2]int
	for _, s := range c.grouped {
		if mul(c.at(s), order) != zero {
			t.Errorf("%v is not of the group", s)
		}
		if s.high() {
			high[0]++
		} else {
			high[1]++
		}
	}
	if high[0] < 5 || high[1] < 5 {
		t.Errorf("%d points with Y high, %d with Y not high", high[0], high[1])
	}
	for _, s := range c.ungrouped {
		// What may not be is answered as the zero value, which is not at infinity.
		if a := mul(c.at(s), order); a == zero || a == *new(P) {
			t.Errorf("%v is of the group, or not of the curve", s)
		}
	}
	for _, a := range c.wrong {
		if mul(a, order) != *new(P) {
			t.Errorf("%v may be", a)
		}
	}
	if len(c.lost) < 5 {
		t.Errorf("%d Xs of no point", len(c.lost))
	}
}

// TestExamples: the chapter's.
func TestExamples(t *testing.T) {
	c := first()
	expect(t, c, repeated(0xC0, "\x00", 48), api.OK, api.G1{Inf: true})
	expectError(t, c, repeated(0xE0, "\x00", 48), api.ErrFlag)
	expectError(t, c, repeated(0x40, "\x00", 48), api.ErrFlag)
	expectError(t, c, repeated(0xC0, "\x00", 47)+"\x01", api.ErrZero)
	expectError(t, c, repeated(0x9F, "\xFF", 48), api.ErrRange)
}

// TestGenerators: P10.1 and P10.2, written out: their Ys are not high, those of
// their negatives are. Of the second one B comes ahead of A.
func TestGenerators(t *testing.T) {
	t.Parallel()
	x1, g1 := digits(oneX), one.Gen()
	expectPut(t, first(), g1, api.OK, flagged(x1, 0x80), digits(oneX, oneY))
	expect(t, first(), flagged(x1, 0x80), api.OK, g1)
	expect(t, first(), flagged(x1, 0xA0), api.OK, neg1(g1))
	expect(t, first(), digits(oneX, oneY), api.OK, g1)
	x2, g2 := digits(twoXB, twoXA), two.Gen()
	expectPut(t, second(), g2, api.OK, flagged(x2, 0x80), digits(twoXB, twoXA, twoYB, twoYA))
	expect(t, second(), flagged(x2, 0x80), api.OK, g2)
	expect(t, second(), flagged(x2, 0xA0), api.OK, neg2(g2))
	expect(t, second(), digits(twoXB, twoXA, twoYB, twoYA), api.OK, g2)
}

// TestPut: P10.1, points of the group.
func TestPut(t *testing.T) { forBoth(t, testPut[api.G1], testPut[api.G2]) }

func testPut[P comparable](t *testing.T, c curve[P]) {
	for _, s := range c.grouped {
		short, full := s.inShort(c.parts), s.inFull(c.parts)
		if len(short) != 48*c.parts || len(full) != 96*c.parts {
			t.Fatalf("%d bytes in short, %d in full", len(short), len(full))
		}
		expectPut(t, c, c.at(s), api.OK, short, full)
	}
}

// TestPutErrors: P10.1. What may not be is not of the group, either: ErrCurve comes first.
func TestPutErrors(t *testing.T) { forBoth(t, testPutErrors[api.G1], testPutErrors[api.G2]) }

func testPutErrors[P comparable](t *testing.T, c curve[P]) {
	for _, s := range c.ungrouped {
		expectPut(t, c, c.at(s), api.ErrGroup, "", "")
	}
	for _, a := range c.wrong {
		expectPut(t, c, a, api.ErrCurve, "", "")
	}
	expectPut(t, c, *new(P), api.ErrCurve, "", "")
}

// TestGet: P10.2, points of the group.
func TestGet(t *testing.T) { forBoth(t, testGet[api.G1], testGet[api.G2]) }

func testGet[P comparable](t *testing.T, c curve[P]) {
	for _, s := range c.grouped {
		expect(t, c, s.inShort(c.parts), api.OK, c.at(s))
		expect(t, c, s.inFull(c.parts), api.OK, c.at(s))
	}
}

// TestLengths: P10.2, texts of every length, of none also, up to beyond those of
// all points; whatever they begin with.
func TestLengths(t *testing.T) { forBoth(t, testLengths[api.G1], testLengths[api.G2]) }

func testLengths[P comparable](t *testing.T, c curve[P]) {
	var texts []string
	for _, s := range c.grouped[:4] {
		texts = append(texts, s.inShort(c.parts), s.inFull(c.parts))
	}
	for _, fill := range []string{"\x00", "\xFF", "\x80", "\xC0"} {
		texts = append(texts, repeated(fill[0], fill, 400), repeated(fill[0], "\x00", 400))
	}
	for length := range 400 {
		for _, s := range texts {
			if length != 48*c.parts && length != 96*c.parts {
				s = s + strings.Repeat("\x00", 400)
				expectError(t, c, s[:length], api.ErrLen)
			}
		}
	}
	for _, length := range []int{48, 96, 192} {
		_, why := c.get(repeated(0, "\x00", length))
		if right := length == 48*c.parts || length == 96*c.parts; right == (why == api.ErrLen) {
			t.Errorf("Get of %d bytes: %d", length, why)
		}
	}
	expectError(t, c, strings.Repeat("\x00", 1<<16), api.ErrLen)
}

// TestFlags: P10.2, each of the eight ways of the three flags, in short and in
// full, of points with either Y, of that at infinity, and of what is no point.
func TestFlags(t *testing.T) { forBoth(t, testFlags[api.G1], testFlags[api.G2]) }

func testFlags[P comparable](t *testing.T, c curve[P]) {
	for _, s := range c.grouped[1:] {
		low, high := s, append(s[:c.parts:c.parts], negative(s[c.parts:])...)
		if s.high() {
			low, high = high, low
		}
		short, full := s.inShort(c.parts), s.inFull(c.parts)
		for flags, want := range map[byte]api.Errno{
			0x00: api.ErrFlag, 0x20: api.ErrFlag, 0x40: api.ErrFlag, 0x60: api.ErrFlag, 0xC0: api.ErrZero, 0xE0: api.ErrFlag,
		} {
			expectError(t, c, flagged(short, flags), want)
		}
		expect(t, c, flagged(short, 0x80), api.OK, c.at(low))
		expect(t, c, flagged(short, 0xA0), api.OK, c.at(high))
		for flags, want := range map[byte]api.Errno{
			0x20: api.ErrFlag, 0x40: api.ErrZero, 0x60: api.ErrFlag,
			0x80: api.ErrFlag, 0xA0: api.ErrFlag, 0xC0: api.ErrFlag, 0xE0: api.ErrFlag,
		} {
			expectError(t, c, flagged(full, flags), want)
		}
		expect(t, c, flagged(full, 0), api.OK, c.at(s))
	}
}

// negative is Y with its sign turned.
func negative(y []*big.Int) []*big.Int {
	var out []*big.Int
	for _, n := range y {
		n := new(big.Int).Sub(prime, n)
		out = append(out, n.Mod(n, prime))
	}
	return out
}

// TestFlagsOfNone: P10.2, each of the eight ways, of texts that are no point.
func TestFlagsOfNone(t *testing.T) { forBoth(t, testFlagsOfNone[api.G1], testFlagsOfNone[api.G2]) }

func testFlagsOfNone[P comparable](t *testing.T, c curve[P]) {
	short, full := 48*c.parts, 96*c.parts
	// Of X 0 the first curve has points that are not of the group, the second one none.
	why := map[int]api.Errno{1: api.ErrGroup, 2: api.ErrCurve}[c.parts]
	rows := []struct {
		text string
		want map[byte]api.Errno // of flags other than these ErrFlag
	}{
		{repeated(0, "\x00", short), map[byte]api.Errno{0x80: why, 0xA0: why, 0xC0: api.OK}},
		{repeated(0, "\x00", full), map[byte]api.Errno{0x00: api.ErrCurve, 0x40: api.OK}},
		{repeated(0x1F, "\xFF", short), map[byte]api.Errno{0x80: api.ErrRange, 0xA0: api.ErrRange, 0xC0: api.ErrZero}},
		{repeated(0x1F, "\xFF", full), map[byte]api.Errno{0x00: api.ErrRange, 0x40: api.ErrZero}},
	}
	for _, row := range rows {
		for flags := 0; flags < 0x100; flags += 0x20 {
			want, ok := row.want[byte(flags)]
			if !ok {
				want = api.ErrFlag
			}
			expect(t, c, flagged(row.text, byte(flags)), want, c.at(nil))
		}
	}
}

// TestInfinity: P10.2, any other bit, and any other byte, in short and in full.
func TestInfinity(t *testing.T) { forBoth(t, testInfinity[api.G1], testInfinity[api.G2]) }

func testInfinity[P comparable](t *testing.T, c curve[P]) {
	short, full := repeated(0xC0, "\x00", 48*c.parts), repeated(0x40, "\x00", 96*c.parts)
	expectPut(t, c, c.at(nil), api.OK, short, full)
	for _, s := range []string{short, full} {
		expect(t, c, s, api.OK, c.at(nil))
		expectError(t, c, changed(s, 0, 0x80), api.ErrFlag)
		expectError(t, c, changed(s, 0, 0x20), api.ErrFlag)
		for bit := 3; bit < 8*len(s); bit++ {
			expectError(t, c, changed(s, bit/8, 0x80>>(bit%8)), api.ErrZero)
		}
		for place := range s {
			for x := 1; x < 0x100; x++ {
				if place > 0 || x < 0x20 {
					expectError(t, c, changed(s, place, byte(x)), api.ErrZero)
				}
			}
		}
		// A flag that may not be comes first.
		expectError(t, c, changed(changed(s, 0, 0x20), 1, 1), api.ErrFlag)
		expectError(t, c, changed(changed(s, 0, 0x80), len(s)-1, 1), api.ErrFlag)
	}
	// X is not held against p there.
	expectError(t, c, repeated(0xDF, "\xFF", len(short)), api.ErrZero)
	expectError(t, c, repeated(0x5F, "\xFF", len(full)), api.ErrZero)
	for _, s := range c.grouped[1:] {
		expectError(t, c, flagged(s.inShort(c.parts), 0xC0), api.ErrZero)
		expectError(t, c, flagged(s.inFull(c.parts), 0x40), api.ErrZero)
	}
}

// tooMuch are numbers that are not below p. Where flags are, they have 381 bits.
func tooMuch(place int) []*big.Int {
	all := []*big.Int{prime, plus(prime, 1), most(381)}
	if place > 0 {
		all = append(all, twoTo(381), twoTo(382), twoTo(383), most(384), new(big.Int).Add(prime, twoTo(383)))
	}
	return all
}

// TestRange: P10.2, in each part of X and Y, and in two of them.
func TestRange(t *testing.T) { forBoth(t, testRange[api.G1], testRange[api.G2]) }

func testRange[P comparable](t *testing.T, c curve[P]) {
	for _, s := range append(c.grouped[1:5:5], c.ungrouped[0], c.nowhere[0]) {
		for place := range s {
			for _, n := range tooMuch(place) {
				bad := s.with(place, n)
				expectError(t, c, bad.inFull(c.parts), api.ErrRange)
				for next := range s {
					expectError(t, c, bad.with(next, prime).inFull(c.parts), api.ErrRange)
					expectError(t, c, bad.with(next, most(381)).inFull(c.parts), api.ErrRange)
				}
				if place < c.parts {
					expectError(t, c, text(0x80, bad[:c.parts]...), api.ErrRange)
					expectError(t, c, text(0xA0, bad[:c.parts]...), api.ErrRange)
				}
			}
		}
	}
}

// TestBelow: P10.2, a number just below p is not too much; nor is what is too much
// taken modulo p, when it would be a point then.
func TestBelow(t *testing.T) { forBoth(t, testBelow[api.G1], testBelow[api.G2]) }

func testBelow[P comparable](t *testing.T, c curve[P]) {
	for place := range 2 * c.parts {
		s := c.grouped[1].with(place, plus(prime, -1))
		expectError(t, c, s.inFull(c.parts), api.ErrCurve)
		if place < c.parts {
			if _, why := c.get(s.inShort(c.parts)); why != api.ErrCurve && why != api.ErrGroup {
				t.Errorf("Get of %x: %d", s.inShort(c.parts), why)
			}
		}
	}
	for _, s := range append(c.ungrouped, c.grouped[1:]...) {
		for place, n := range s {
			more := new(big.Int).Add(n, prime)
			if place == 0 && more.BitLen() > 381 {
				continue
			}
			expectError(t, c, s.with(place, more).inFull(c.parts), api.ErrRange)
			if place < c.parts {
				expectError(t, c, s.with(place, more).inShort(c.parts), api.ErrRange)
			}
		}
	}
}

// TestErrCurve: P10.2, an X of no point, and elements that meet no point.
func TestErrCurve(t *testing.T) { forBoth(t, testErrCurve[api.G1], testErrCurve[api.G2]) }

func testErrCurve[P comparable](t *testing.T, c curve[P]) {
	for _, x := range c.lost {
		expectError(t, c, text(0x80, x...), api.ErrCurve)
		expectError(t, c, text(0xA0, x...), api.ErrCurve)
		expectError(t, c, text(0, append(x[:c.parts:c.parts], x...)...), api.ErrCurve)
		for _, s := range c.grouped[1:4] {
			expectError(t, c, text(0, append(x[:c.parts:c.parts], s[c.parts:]...)...), api.ErrCurve)
		}
	}
	for _, s := range c.nowhere {
		expectError(t, c, s.inFull(c.parts), api.ErrCurve)
	}
}

// TestErrGroup: P10.2, points of the curve that are not of the group, with either Y.
func TestErrGroup(t *testing.T) { forBoth(t, testErrGroup[api.G1], testErrGroup[api.G2]) }

func testErrGroup[P comparable](t *testing.T, c curve[P]) {
	for _, s := range c.ungrouped {
		expectError(t, c, text(0x80, s[:c.parts]...), api.ErrGroup)
		expectError(t, c, text(0xA0, s[:c.parts]...), api.ErrGroup)
		expectError(t, c, s.inFull(c.parts), api.ErrGroup)
		other := append(s[:c.parts:c.parts], negative(s[c.parts:])...)
		expectError(t, c, other.inFull(c.parts), api.ErrGroup)
	}
}

// TestOrder: P10.2, texts that two or more errors would fit: the first one of the
// chapter's list is told.
func TestOrder(t *testing.T) { forBoth(t, testOrder[api.G1], testOrder[api.G2]) }

func testOrder[P comparable](t *testing.T, c curve[P]) {
	gen, stray, x := c.grouped[1], c.ungrouped[2], c.lost[0]
	full, short := 96*c.parts, 48*c.parts
	lost := text(0, x...)
	rows := []struct {
		name, text string
		want       api.Errno
	}{
		{"length, flags, zeros, range", repeated(0xFF, "\xFF", short-1), api.ErrLen},
		{"length, flags, zeros, range", repeated(0xFF, "\xFF", full+1), api.ErrLen},
		{"length, zeros", repeated(0xC0, "\x01", short+1), api.ErrLen},
		{"length, range", repeated(0x9F, "\xFF", short+1), api.ErrLen},
		{"length, curve", flagged(lost, 0x80) + "\x00", api.ErrLen},
		{"length, group", stray.inShort(c.parts)[:short-1], api.ErrLen},
		{"flags, zeros, range", repeated(0xFF, "\xFF", short), api.ErrFlag},
		{"flags, zeros, range", repeated(0xFF, "\xFF", full), api.ErrFlag},
		{"flags, zeros", repeated(0x40, "\x01", short), api.ErrFlag},
		{"flags, zeros", repeated(0xC0, "\x01", full), api.ErrFlag},
		{"flags, zeros", repeated(0x60, "\x01", full), api.ErrFlag},
		{"flags, range", repeated(0x1F, "\xFF", short), api.ErrFlag},
		{"flags, range", repeated(0x3F, "\xFF", full), api.ErrFlag},
		{"flags, curve", lost, api.ErrFlag},
		{"flags, curve", flagged(lost+lost, 0x20), api.ErrFlag},
		{"flags, group", flagged(stray.inShort(c.parts), 0x20), api.ErrFlag},
		{"flags, group", flagged(stray.inFull(c.parts), 0x80), api.ErrFlag},
		{"zeros, range", repeated(0xDF, "\xFF", short), api.ErrZero},
		{"zeros, range", repeated(0x5F, "\xFF", full), api.ErrZero},
		{"zeros, curve", flagged(lost, 0xC0), api.ErrZero},
		{"zeros, curve", flagged(lost+lost, 0x40), api.ErrZero},
		{"zeros, group", flagged(stray.inShort(c.parts), 0xC0), api.ErrZero},
		{"zeros, group", flagged(stray.inFull(c.parts), 0x40), api.ErrZero},
		{"range, curve", lost + repeated(0xFF, "\xFF", short), api.ErrRange},
		{"range, curve", gen.with(2*c.parts-1, most(384)).inFull(c.parts), api.ErrRange},
		{"range, group", stray.with(2*c.parts-1, most(384)).inFull(c.parts), api.ErrRange},
		{"curve, group", flagged(lost, 0xA0), api.ErrCurve},
		{"curve, group", stray.with(2*c.parts-1, &big.Int{}).inFull(c.parts), api.ErrCurve},
		{"group", stray.inShort(c.parts), api.ErrGroup},
		{"group", stray.inFull(c.parts), api.ErrGroup},
	}
	for _, row := range rows {
		if got, why := c.get(row.text); why != row.want || got != *new(P) {
			t.Errorf("%s: Get of %x = %v, %d, not %d", row.name, row.text, got, why, row.want)
		}
	}
}

// TestThereAndBack: P10.3, of points, and of bytes, in short or in full, as they were.
func TestThereAndBack(t *testing.T) { forBoth(t, testThereAndBack[api.G1], testThereAndBack[api.G2]) }

func testThereAndBack[P comparable](t *testing.T, c curve[P]) {
	for _, s := range c.grouped {
		for _, write := range []func(P) (string, api.Errno){c.put, c.wide} {
			a := c.at(s)
			bytes, why := write(a)
			back, whyBack := c.get(bytes)
			if why != api.OK || whyBack != api.OK || back != a {
				t.Errorf("put and got again, %v is %v: %d, %d", a, back, why, whyBack)
			}
			if again, _ := write(back); again != bytes {
				t.Errorf("got and put again, %x is %x", bytes, again)
			}
		}
	}
}

// TestAnyBytes: P10.2 and P10.3, bytes near to a point's, and any bytes: what is
// got of them, if anything, is the bytes, put again.
func TestAnyBytes(t *testing.T) { forBoth(t, testAnyBytes[api.G1], testAnyBytes[api.G2]) }

func testAnyBytes[P comparable](t *testing.T, c curve[P]) {
	random := rand.New(rand.NewSource(3))
	var texts []string
	for _, s := range c.grouped[:6] {
		for _, s := range []string{s.inShort(c.parts), s.inFull(c.parts)} {
			texts = append(texts, s)
			for bit := range 3 {
				texts = append(texts, changed(s, 0, 0x80>>bit))
			}
			for range 20 {
				texts = append(texts, changed(s, random.Intn(len(s)), byte(1+random.Intn(255))))
			}
		}
	}
	for i := range 60 {
		b := make([]byte, 48*c.parts*(1+i%2))
		random.Read(b)
		texts = append(texts, string(b))
	}
	good := 0
	for _, s := range texts {
		a, why := c.get(s)
		if why != api.OK {
			expectError(t, c, s, why)
			continue
		}
		good++
		write := c.wide
		if len(s) == 48*c.parts {
			write = c.put
		}
		if again, why := write(a); why != api.OK || again != s {
			t.Errorf("got and put again, %x is %x, %d", s, again, why)
		}
	}
	if good < 12 {
		t.Errorf("%d points among %d texts", good, len(texts))
	}
}

// TestAlone: R1, calls that go wrong leave nothing behind.
func TestAlone(t *testing.T) {
	t.Parallel()
	g := one.Gen()
	for _, s := range []string{"", repeated(0xFF, "\xFF", 48), repeated(0xC0, "\x01", 48), repeated(0x9F, "\xFF", 48)} {
		point.Get1(s)
		point.Put1(api.G1{})
		short, why := point.Put1(g)
		if a, whyGet := point.Get1(short); why != api.OK || whyGet != api.OK || a != g {
			t.Errorf("after Get1 of %x: %v, %d, %d", s, a, why, whyGet)
		}
	}
}
