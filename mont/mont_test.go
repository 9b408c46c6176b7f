package mont_test

import (
	"math/big"
	"math/rand"
	"slices"
	"testing"

	"chirograph/api"
	"chirograph/mont"
)

const (
	top    = 1<<64 - 1
	widest = 8
)

func value(a []uint64) *big.Int {
	n := new(big.Int)
	for i := range len(a) {
		n.Lsh(n, 64)
		n.Or(n, new(big.Int).SetUint64(a[len(a)-1-i]))
	}
	return n
}

// row is the row of that width whose number is n, which must fit.
func row(n *big.Int, width int) []uint64 {
	rest := new(big.Int).Set(n)
	mask := new(big.Int).SetUint64(top)
	a := make([]uint64, width)
	for i := range width {
		a[i] = new(big.Int).And(rest, mask).Uint64()
		rest.Rsh(rest, 64)
	}
	return a
}

func power(limbs int) *big.Int { return new(big.Int).Lsh(big.NewInt(1), uint(64*limbs)) }

func ones(limbs int) []uint64 { return slices.Repeat([]uint64{top}, limbs) }

// someRow is one whose limbs are often at an edge, where carries go wrong.
func someRow(r *rand.Rand, limbs int) []uint64 {
	edges := []uint64{0, 0, 1, 2, 1 << 63, 1<<63 - 1, 1<<63 + 1, 1 << 32, top - 1, top, top}
	a := make([]uint64, limbs)
	for i := range limbs {
		if r.Intn(3) == 0 {
			a[i] = r.Uint64()
		} else {
			a[i] = edges[r.Intn(len(edges))]
		}
	}
	return a
}

func someModulus(r *rand.Rand, limbs int) []uint64 {
	m := someRow(r, limbs)
	m[0] |= 1
	if value(m).Cmp(big.NewInt(1)) == 0 {
		m[0] = 3
	}
	return m
}

// moduli are of every width, at their edges and random ones.
func moduli() [][]uint64 {
	r := rand.New(rand.NewSource(1))
	all := [][]uint64{{1001}, {top - 58}}
	for width := 1; width <= widest; width++ {
		three := make([]uint64, width)
		three[0] = 3
		high := make([]uint64, width)
		high[0] = 1
		high[width-1] |= 1 << 63
		all = append(all, three, high, ones(width))
		for range 12 {
			all = append(all, someModulus(r, width))
		}
	}
	return all
}

func someElement(r *rand.Rand, m []uint64) []uint64 {
	return row(new(big.Int).Mod(value(someRow(r, len(m))), value(m)), len(m))
}

// elements are 0, 1, those just below the modulus, and random ones.
func elements(r *rand.Rand, m []uint64) [][]uint64 {
	n, width := value(m), len(m)
	all := [][]uint64{
		make([]uint64, width),
		row(big.NewInt(1), width),
		row(new(big.Int).Sub(n, big.NewInt(1)), width),
		row(new(big.Int).Sub(n, big.NewInt(2)), width),
	}
	for range 6 {
		all = append(all, someElement(r, m))
	}
	return all
}

// eachPair visits pairs of elements of all the moduli.
func eachPair(visit func(a, b, m []uint64)) {
	r := rand.New(rand.NewSource(2))
	for _, m := range moduli() {
		all := elements(r, m)
		for _, a := range all {
			for _, b := range all {
				visit(a, b, m)
			}
		}
	}
}

// rest is the row of what n leaves, divided by m.
func rest(n *big.Int, m []uint64) []uint64 {
	return row(new(big.Int).Mod(n, value(m)), len(m))
}

func times(a, b *big.Int) *big.Int { return new(big.Int).Mul(a, b) }

// lessR is what a leaves, divided by R, modulo m.
func lessR(a *big.Int, m []uint64) []uint64 {
	inverse := new(big.Int).ModInverse(power(len(m)), value(m))
	return rest(times(a, inverse), m)
}

func check(t *testing.T, name string, got []uint64, why api.Errno, want []uint64, args ...[]uint64) {
	t.Helper()
	if why != api.OK || !slices.Equal(got, want) {
		t.Fatalf("%s of %x = %x, %d, not %x", name, args, got, why, want)
	}
}

// TestNeg: P2.1.
func TestNeg(t *testing.T) {
	for _, c := range []struct{ m, want uint64 }{
		{1, top},
		{3, 6148914691236517205},
		{2, 0},
		{0, 0},
		{1 << 63, 0},
		{top - 1, 0},
		{top, 1},
	} {
		if got := mont.Neg(c.m); got != c.want {
			t.Errorf("Neg(%x) = %x, not %x", c.m, got, c.want)
		}
	}
	r := rand.New(rand.NewSource(3))
	for i := range uint64(64) {
		for _, m := range []uint64{1 << i, 1<<i + 1, 1<<i - 1, top - i, r.Uint64(), i} {
			got := mont.Neg(m)
			if m%2 == 0 && got != 0 {
				t.Errorf("Neg(%x) = %x", m, got)
			}
			if m%2 == 1 && m*got != top {
				t.Errorf("Neg(%x) = %x: the product is %x", m, got, m*got)
			}
		}
	}
}

// TestMul: P2.2.
func TestMul(t *testing.T) {
	eachPair(func(a, b, m []uint64) {
		got, why := mont.Mul(a, b, m)
		check(t, "Mul", got, why, lessR(times(value(a), value(b)), m), a, b, m)
	})
}

// TestIntoFrom: P2.2.
func TestIntoFrom(t *testing.T) {
	eachPair(func(a, _, m []uint64) {
		in, why := mont.Into(a, m)
		check(t, "Into", in, why, rest(times(value(a), power(len(m))), m), a, m)
		back, why := mont.From(a, m)
		check(t, "From", back, why, lessR(value(a), m), a, m)
	})
}

// TestExamples: the chapter's.
func TestExamples(t *testing.T) {
	one, three := []uint64{1}, []uint64{3}
	in, why := mont.Into(one, three)
	check(t, "Into", in, why, one, one, three)
	back, why := mont.From(one, three)
	check(t, "From", back, why, one, one, three)
	x, why := mont.Pow([]uint64{2}, []uint64{10}, []uint64{1001})
	check(t, "Pow", x, why, []uint64{23})
}

// exponents are of every width, at their edges and random ones.
func exponents(r *rand.Rand) [][]uint64 {
	all := [][]uint64{nil, {}, {0}, {1}, {2}, {3}, {1 << 63}, {0, 1}, {5, 0, 0}, {0, 0, 0, 0}}
	all = append(all, make([]uint64, api.MaxLimbs), ones(api.MaxLimbs))
	all = append(all, append(make([]uint64, api.MaxLimbs-1), 1<<63))
	for width := 1; width <= api.MaxLimbs; width++ {
		all = append(all, someRow(r, width))
	}
	return all
}

// TestPow: P2.3.
func TestPow(t *testing.T) {
	r := rand.New(rand.NewSource(4))
	for i, m := range moduli() {
		all := elements(r, m)
		for j, e := range exponents(r) {
			a := all[(i+j)%len(all)]
			got, why := mont.Pow(a, e, m)
			check(t, "Pow", got, why, row(new(big.Int).Exp(value(a), value(e), value(m)), len(m)), a, e, m)
		}
	}
}

// TestPowZero: P2.3, the power of 0 is 1, whatever is raised; 0 to any other power is 0.
func TestPowZero(t *testing.T) {
	r := rand.New(rand.NewSource(5))
	for _, m := range moduli() {
		unit := row(big.NewInt(1), len(m))
		for _, a := range elements(r, m) {
			for _, e := range [][]uint64{nil, {}, {0}, {0, 0, 0}, make([]uint64, api.MaxLimbs)} {
				got, why := mont.Pow(a, e, m)
				check(t, "Pow", got, why, unit, a, e, m)
			}
		}
		none := make([]uint64, len(m))
		for _, e := range [][]uint64{{1}, {2}, {0, 1}, ones(api.MaxLimbs)} {
			got, why := mont.Pow(none, e, m)
			check(t, "Pow", got, why, none, none, e, m)
		}
	}
}

func expectRefusal(t *testing.T, name string, got []uint64, why api.Errno, args ...[]uint64) {
	t.Helper()
	if why != api.ErrArg || len(got) != 0 {
		t.Errorf("%s of %x = %x, %d", name, args, got, why)
	}
}

// expectAllRefuse asks every call that takes both rows.
func expectAllRefuse(t *testing.T, a, m []uint64) {
	t.Helper()
	e := []uint64{5}
	got, why := mont.Mul(a, a, m)
	expectRefusal(t, "Mul", got, why, a, a, m)
	got, why = mont.Into(a, m)
	expectRefusal(t, "Into", got, why, a, m)
	got, why = mont.From(a, m)
	expectRefusal(t, "From", got, why, a, m)
	got, why = mont.Pow(a, e, m)
	expectRefusal(t, "Pow", got, why, a, e, m)
	got, why = mont.Pow(a, nil, m)
	expectRefusal(t, "Pow", got, why, a, nil, m)
}

func wide(low uint64, limbs int) []uint64 {
	a := make([]uint64, limbs)
	a[0] = low
	return a
}

// TestNoModulus: P2.2.
func TestNoModulus(t *testing.T) {
	for _, m := range [][]uint64{
		nil,
		{},
		{0},
		{1},
		{2},
		{top - 1},
		{1, 0},
		wide(1, widest),
		wide(0, widest),
		{0, 1},
		{4, 5, 6},
		append([]uint64{top - 1}, ones(7)...),
		wide(3, 9),
		ones(9),
		wide(3, api.MaxLimbs),
		ones(api.MaxLimbs),
		wide(3, api.MaxLimbs+1),
		ones(100),
	} {
		expectAllRefuse(t, make([]uint64, len(m)), m)
		expectAllRefuse(t, nil, m)
		expectAllRefuse(t, []uint64{0}, m)
	}
}

// noElements are rows that are none of m's.
func noElements(r *rand.Rand, m []uint64) [][]uint64 {
	width := len(m)
	all := [][]uint64{
		nil,
		{},
		make([]uint64, width-1),
		make([]uint64, width+1),
		make([]uint64, api.MaxLimbs+1),
		append(slices.Clone(m), 0),
		append(row(big.NewInt(1), width), 0),
		slices.Clone(m),
	}
	if more := new(big.Int).Add(value(m), big.NewInt(1)); more.Cmp(power(width)) < 0 {
		all = append(all, row(more, width), ones(width))
	}
	for range 5 {
		if a := someRow(r, width); value(a).Cmp(value(m)) >= 0 {
			all = append(all, a)
		}
	}
	return all
}

// TestNoElement: P2.2, either of two factors may be the wrong one.
func TestNoElement(t *testing.T) {
	r := rand.New(rand.NewSource(6))
	for _, m := range moduli() {
		good := row(big.NewInt(1), len(m))
		for _, bad := range noElements(r, m) {
			expectAllRefuse(t, bad, m)
			got, why := mont.Mul(good, bad, m)
			expectRefusal(t, "Mul", got, why, good, bad, m)
			got, why = mont.Mul(bad, good, m)
			expectRefusal(t, "Mul", got, why, bad, good, m)
		}
	}
}

// TestLongExponent: P2.3, an exponent is too long by its limbs, not by its number.
func TestLongExponent(t *testing.T) {
	for _, m := range moduli() {
		a := row(big.NewInt(2), len(m))
		for _, e := range [][]uint64{wide(0, 17), wide(5, 17), ones(17), wide(1, 100)} {
			got, why := mont.Pow(a, e, m)
			expectRefusal(t, "Pow", got, why, a, e, m)
		}
		got, why := mont.Pow(a, wide(5, api.MaxLimbs), m)
		check(t, "Pow", got, why, rest(big.NewInt(32), m), a, m)
	}
}

// must is for calls whose arguments are known to be right.
func must(t *testing.T) func([]uint64, api.Errno) []uint64 {
	return func(a []uint64, why api.Errno) []uint64 {
		t.Helper()
		if why != api.OK {
			t.Fatalf("refused: %d", why)
		}
		return a
	}
}

// TestThereAndBack: P2.4.
func TestThereAndBack(t *testing.T) {
	right := must(t)
	eachPair(func(a, b, m []uint64) {
		there := right(mont.Into(a, m))
		back := right(mont.From(there, m))
		if !slices.Equal(back, a) {
			t.Fatalf("%x modulo %x, there and back: %x", a, m, back)
		}
		out := right(mont.From(a, m))
		again := right(mont.Into(out, m))
		if !slices.Equal(again, a) {
			t.Fatalf("%x modulo %x, back and there: %x", a, m, again)
		}
		product := right(mont.From(right(mont.Mul(there, right(mont.Into(b, m)), m)), m))
		if want := rest(times(value(a), value(b)), m); !slices.Equal(product, want) {
			t.Fatalf("%x times %x modulo %x: %x, not %x", a, b, m, product, want)
		}
	})
}

// TestExponentsAddUp: P2.4.
func TestExponentsAddUp(t *testing.T) {
	right := must(t)
	r := rand.New(rand.NewSource(7))
	for _, m := range moduli() {
		for _, a := range elements(r, m) {
			d, e := someRow(r, 1+r.Intn(3)), someRow(r, 1+r.Intn(3))
			both := row(new(big.Int).Add(value(d), value(e)), 4)
			x, y := right(mont.Pow(a, d, m)), right(mont.Pow(a, e, m))
			product := right(mont.Mul(right(mont.Into(x, m)), y, m))
			if sum := right(mont.Pow(a, both, m)); !slices.Equal(product, sum) {
				t.Fatalf("%x to %x and to %x modulo %x: %x, not %x", a, d, e, m, product, sum)
			}
		}
	}
}

// guarded is a row with room behind it, so that a write beyond its end is seen too.
func guarded(a []uint64) []uint64 {
	return append(slices.Clone(a), 0xabad1dea, 0xabad1dea)[:len(a)]
}

func unchanged(now, was []uint64) bool {
	return slices.Equal(now[:len(was)+2], append(slices.Clone(was), 0xabad1dea, 0xabad1dea))
}

func callAll(a, b, m []uint64) [][]uint64 {
	product, _ := mont.Mul(a, b, m)
	in, _ := mont.Into(a, m)
	back, _ := mont.From(a, m)
	raised, _ := mont.Pow(a, b, m)
	zeroth, _ := mont.Pow(a, nil, m)
	return [][]uint64{product, in, back, raised, zeroth}
}

func expectUnchanged(t *testing.T, a, b, m []uint64) {
	t.Helper()
	ga, gb, gm := guarded(a), guarded(b), guarded(m)
	for _, answer := range callAll(ga, gb, gm) {
		room := answer[:cap(answer)]
		for i := range room {
			room[i] = 0xdead
		}
	}
	if !unchanged(ga, a) || !unchanged(gb, b) || !unchanged(gm, m) {
		t.Fatalf("%x, %x and %x were changed to %x, %x and %x", a, b, m, ga, gb, gm)
	}
}

// TestUnchanged: R4, and that an answer is new memory, with an error or without one.
func TestUnchanged(t *testing.T) {
	eachPair(func(a, b, m []uint64) {
		expectUnchanged(t, a, b, m)
		expectUnchanged(t, m, b, m)
		expectUnchanged(t, a, b, append(slices.Clone(m), 0))
	})
	expectUnchanged(t, nil, nil, nil)
	expectUnchanged(t, []uint64{7}, ones(17), []uint64{1001})
}

// TestSameRow: one row may stand for two arguments.
func TestSameRow(t *testing.T) {
	eachPair(func(a, _, m []uint64) {
		one, two := callAll(a, a, m), callAll(a, slices.Clone(a), m)
		if !slices.EqualFunc(one, two, slices.Equal) {
			t.Fatalf("%x with itself: %x, with a copy: %x", a, one, two)
		}
	})
}

// TestAgain: R1, calls keep nothing.
func TestAgain(t *testing.T) {
	r := rand.New(rand.NewSource(8))
	m, n := someModulus(r, 6), someModulus(r, 3)
	a, b, c := someElement(r, m), someElement(r, m), someElement(r, n)
	first := callAll(a, b, m)
	callAll(c, c, n)
	if again := callAll(a, b, m); !slices.EqualFunc(first, again, slices.Equal) {
		t.Errorf("%x, then %x", first, again)
	}
}
