package sext_test

import (
	"math/big"
	"math/rand"
	"testing"

	"chirograph/api"
	"chirograph/duo"
	"chirograph/sext"
)

const size = 48

// prime is p, read from chapter 4's own digits.
var prime, _ = new(big.Int).SetString("1A0111EA397FE69A4B1BA7B6434BACD764774B84F38512BF6730D2A0F6B0F6241EABFFFEB153FFFFB9FEFFFFFFFFAAAB", 16)

func value(a api.Fp) *big.Int {
	n := new(big.Int)
	for i := range len(a) {
		n.Lsh(n, 64)
		n.Or(n, new(big.Int).SetUint64(a[len(a)-1-i]))
	}
	return n
}

// whole is the number n as it is, which must fit.
func whole(n *big.Int) api.Fp {
	var a api.Fp
	for i, x := range n.FillBytes(make([]byte, size)) {
		a[5-i/8] = a[5-i/8]<<8 | uint64(x)
	}
	return a
}

func plus(n *big.Int, d int64) *big.Int { return new(big.Int).Add(n, big.NewInt(d)) }

func times(n *big.Int, k int64) *big.Int { return new(big.Int).Mul(n, big.NewInt(k)) }

// edgeNumbers are at and beside 0, 1, p - 1, p, twice and nine times p, and
// 2^384 - 1.
func edgeNumbers() []api.Fp {
	end := new(big.Int).Lsh(big.NewInt(1), 384)
	all := []api.Fp{{0}, {1}, {2}}
	for d := int64(-2); d <= 1; d++ {
		all = append(all, whole(plus(prime, d)))
	}
	all = append(all, whole(times(prime, 2)), whole(plus(times(prime, 2), 1)), whole(times(prime, 9)))
	return append(all, whole(plus(end, -2)), whole(plus(end, -1)))
}

// six are the numbers of an element: A's two, B's two, C's two.
type six [6]api.Fp

func (n six) put() api.Fp6 {
	return api.Fp6{A: api.Fp2{A: n[0], B: n[1]}, B: api.Fp2{A: n[2], B: n[3]}, C: api.Fp2{A: n[4], B: n[5]}}
}

func numbers(a api.Fp6) six { return six{a.A.A, a.A.B, a.B.A, a.B.B, a.C.A, a.C.B} }

// someNumber is any of 384 bits: most are not below p.
func someNumber(s *rand.Rand) api.Fp {
	var a api.Fp
	for i := range a {
		a[i] = s.Uint64()
	}
	return a
}

// somePart is any below p.
func somePart(s *rand.Rand) api.Fp { return whole(new(big.Int).Rand(s, prime)) }

func someOf(s *rand.Rand, one func(*rand.Rand) api.Fp) api.Fp6 {
	var n six
	for i := range n {
		n[i] = one(s)
	}
	return n.put()
}

func some(s *rand.Rand) api.Fp6 { return someOf(s, somePart) }

// edges have each edge number at each place, beside nothing, beside ordinary
// numbers and beside other edge numbers.
func edges() []api.Fp6 {
	s := rand.New(rand.NewSource(1))
	all := edgeNumbers()
	anyEdge := func(s *rand.Rand) api.Fp { return all[s.Intn(len(all))] }
	var out []api.Fp6
	for _, n := range all {
		for place := range 6 {
			for _, around := range []six{{}, numbers(some(s)), numbers(someOf(s, anyEdge))} {
				around[place] = n
				out = append(out, around.put())
			}
		}
	}
	for range 100 {
		out = append(out, someOf(s, anyEdge))
	}
	return out
}

// withHoles are elements whose A, B and C are 0 or not, in all ways; 0 is also
// written as p and as twice p.
func withHoles() []api.Fp6 {
	s := rand.New(rand.NewSource(2))
	p, twice := whole(prime), whole(times(prime, 2))
	var out []api.Fp6
	for mask := range 8 {
		for _, zero := range []api.Fp2{{}, {A: p}, {B: p}, {A: p, B: p}, {A: twice, B: p}} {
			a := some(s)
			if mask&1 != 0 {
				a.A = zero
			}
			if mask&2 != 0 {
				a.B = zero
			}
			if mask&4 != 0 {
				a.C = zero
			}
			out = append(out, a)
		}
	}
	return out
}

// elements are the edges, those with holes, and ordinary ones, also with numbers
// that are not below p.
func elements() []api.Fp6 {
	s := rand.New(rand.NewSource(3))
	all := append(edges(), withHoles()...)
	for range 15 {
		all = append(all, some(s), someOf(s, someNumber))
	}
	return all
}

func isZero(a api.Fp6) bool {
	for _, n := range numbers(a) {
		if new(big.Int).Mod(value(n), prime).Sign() != 0 {
			return false
		}
	}
	return true
}

// wide is an element as a polynomial in v alone, in the library's numbers: as u
// is v v v - 1 and u u is -1, its sixth power is twice the third one, less 2.
type wide [6]*big.Int

func from(a api.Fp6) wide {
	var out wide
	n := numbers(a)
	for i := range 3 {
		plain, upright := value(n[2*i]), value(n[2*i+1])
		out[i] = new(big.Int).Sub(plain, upright)
		out[i+3] = upright
	}
	return out.rest()
}

func (x wide) rest() wide {
	for i := range x {
		x[i] = new(big.Int).Mod(x[i], prime)
	}
	return x
}

func (x wide) put() api.Fp6 {
	var n six
	for i := range 3 {
		plain := new(big.Int).Add(x[i], x[i+3])
		n[2*i], n[2*i+1] = whole(plain.Mod(plain, prime)), whole(x[i+3])
	}
	return n.put()
}

func (x wide) with(y wide, do func(z, x, y *big.Int) *big.Int) wide {
	var out wide
	for i := range out {
		out[i] = do(new(big.Int), x[i], y[i])
	}
	return out.rest()
}

func (x wide) plus(y wide) wide { return x.with(y, (*big.Int).Add) }

func (x wide) minus(y wide) wide { return x.with(y, (*big.Int).Sub) }

func (x wide) times(y wide) wide {
	var long [11]*big.Int
	for i := range long {
		long[i] = new(big.Int)
	}
	for i := range x {
		for j := range y {
			long[i+j].Add(long[i+j], new(big.Int).Mul(x[i], y[j]))
		}
	}
	for i := 10; i >= 6; i-- {
		double := new(big.Int).Lsh(long[i], 1)
		long[i-3].Add(long[i-3], double)
		long[i-6].Sub(long[i-6], double)
	}
	return wide(long[:6]).rest()
}

func (x wide) power(e *big.Int) wide {
	out := from(one())
	for i := range e.BitLen() {
		out = out.times(out)
		if e.Bit(e.BitLen()-1-i) == 1 {
			out = out.times(x)
		}
	}
	return out
}

func one() api.Fp6 { return six{{1}}.put() }

func v() api.Fp6 { return api.Fp6{B: one().A} }

func vv() api.Fp6 { return api.Fp6{C: one().A} }

// uAndOne is u + 1, which v v v is.
func uAndOne() api.Fp6 { return six{{1}, {1}}.put() }

func check(t *testing.T, name string, got, want api.Fp6, args ...api.Fp6) {
	t.Helper()
	if got != want {
		t.Fatalf("%s of %x = %x, not %x", name, args, got, want)
	}
	for _, n := range numbers(got) {
		if value(n).Cmp(prime) >= 0 {
			t.Fatalf("%s of %x = %x: not below p", name, args, got)
		}
	}
}

// TestEachAlone: P6.1, the calls that take one.
func TestEachAlone(t *testing.T) {
	zero := from(api.Fp6{})
	for _, a := range elements() {
		x := from(a)
		check(t, "Clean", sext.Clean(a), x.put(), a)
		check(t, "Neg", sext.Neg(a), zero.minus(x).put(), a)
		check(t, "Shift", sext.Shift(a), x.times(from(v())).put(), a)
	}
}

// TestPartByPart: P6.1, each part is what duo makes of the same parts.
func TestPartByPart(t *testing.T) {
	all := elements()
	for i, a := range all {
		b := all[(7*i+3)%len(all)]
		check(t, "Clean", sext.Clean(a), api.Fp6{A: duo.Clean(a.A), B: duo.Clean(a.B), C: duo.Clean(a.C)}, a)
		check(t, "Neg", sext.Neg(a), api.Fp6{A: duo.Neg(a.A), B: duo.Neg(a.B), C: duo.Neg(a.C)}, a)
		check(t, "Add", sext.Add(a, b), api.Fp6{A: duo.Add(a.A, b.A), B: duo.Add(a.B, b.B), C: duo.Add(a.C, b.C)}, a, b)
		check(t, "Sub", sext.Sub(a, b), api.Fp6{A: duo.Sub(a.A, b.A), B: duo.Sub(a.B, b.B), C: duo.Sub(a.C, b.C)}, a, b)
	}
}

func checkPair(t *testing.T, a, b api.Fp6) {
	t.Helper()
	x, y := from(a), from(b)
	check(t, "Add", sext.Add(a, b), x.plus(y).put(), a, b)
	check(t, "Sub", sext.Sub(a, b), x.minus(y).put(), a, b)
	check(t, "Mul", sext.Mul(a, b), x.times(y).put(), a, b)
}

// TestPairs: P6.1, the calls that take two.
func TestPairs(t *testing.T) {
	all := elements()
	for i, a := range all {
		for j := i % 17; j < len(all); j += 17 {
			checkPair(t, a, all[j])
		}
	}
	s := rand.New(rand.NewSource(4))
	for range 1000 {
		checkPair(t, some(s), someOf(s, someNumber))
		checkPair(t, someOf(s, someNumber), some(s))
	}
}

// TestHoles: P6.1, each element with parts 0 against each other one.
func TestHoles(t *testing.T) {
	all := withHoles()
	for _, a := range all {
		for _, b := range all {
			checkPair(t, a, b)
		}
	}
}

// TestPowersOfV: P6.1, products of v and v v with all elements and each other.
func TestPowersOfV(t *testing.T) {
	check(t, "v v", sext.Mul(v(), v()), vv())
	check(t, "v v v", sext.Mul(sext.Mul(v(), v()), v()), uAndOne())
	check(t, "v v v v", sext.Mul(vv(), vv()), sext.Mul(uAndOne(), v()))
	check(t, "u + 1 times v", sext.Mul(uAndOne(), v()), six{2: {1}, 3: {1}}.put())
	for _, a := range elements() {
		checkPair(t, a, v())
		checkPair(t, v(), a)
		checkPair(t, a, vv())
		checkPair(t, vv(), a)
	}
}

// TestExamples: the chapter's.
func TestExamples(t *testing.T) {
	check(t, "Mul", sext.Mul(v(), vv()), uAndOne(), v(), vv())
	check(t, "Mul", sext.Mul(vv(), v()), uAndOne(), vv(), v())
	check(t, "Shift", sext.Shift(vv()), uAndOne(), vv())
}

// TestShift: P6.1 and P6.2, by where the parts go, and three times.
func TestShift(t *testing.T) {
	check(t, "Shift", sext.Shift(one()), v(), one())
	check(t, "Shift", sext.Shift(v()), vv(), v())
	for _, a := range elements() {
		once := sext.Shift(a)
		check(t, "Shift", once, api.Fp6{A: duo.Mul(a.C, uAndOne().A), B: duo.Clean(a.A), C: duo.Clean(a.B)}, a)
		check(t, "Shift", once, sext.Mul(a, v()), a)
		thrice := sext.Shift(sext.Shift(once))
		check(t, "three Shifts", thrice, sext.Mul(a, uAndOne()), a)
		check(t, "three Shifts", thrice, from(a).times(from(uAndOne())).put(), a)
	}
}

// checkInv holds Inv by its product, reckoned in the library's numbers.
func checkInv(t *testing.T, a api.Fp6) {
	t.Helper()
	got := sext.Inv(a)
	if isZero(a) {
		check(t, "Inv", got, api.Fp6{}, a)
		return
	}
	check(t, "Inv, times it", from(a).times(from(got)).put(), one(), a)
	check(t, "Inv", got, from(got).put(), a)
}

// TestInv: P6.1.
func TestInv(t *testing.T) {
	for _, a := range elements() {
		checkInv(t, a)
	}
}

// TestInvByPower: P6.1, by another way: a to the power of p^6 - 2.
func TestInvByPower(t *testing.T) {
	e := plus(new(big.Int).Exp(prime, big.NewInt(6), nil), -2)
	all := elements()
	for i := 0; i < len(all); i += 40 {
		check(t, "Inv", sext.Inv(all[i]), from(all[i]).power(e).put(), all[i])
	}
}

// TestInvOfZero: P6.1, 0 in all its forms, which are no others than 0.
func TestInvOfZero(t *testing.T) {
	forms := []api.Fp{{}, whole(prime), whole(times(prime, 2)), whole(times(prime, 9))}
	s := rand.New(rand.NewSource(5))
	for _, form := range forms {
		zero := six{form, form, form, form, form, form}.put()
		check(t, "Inv", sext.Inv(zero), api.Fp6{}, zero)
	}
	for range 200 {
		zero := someOf(s, func(s *rand.Rand) api.Fp { return forms[s.Intn(len(forms))] })
		check(t, "Inv", sext.Inv(zero), api.Fp6{}, zero)
	}
}

// TestInvOfOnePart: P6.1, elements with two parts 0, also written as p: of A it
// is duo's, of B v and C v v what is left of 1, divided by v and by v v.
func TestInvOfOnePart(t *testing.T) {
	s := rand.New(rand.NewSource(6))
	p := api.Fp2{A: whole(prime), B: whole(prime)}
	for _, zero := range []api.Fp2{{}, p} {
		for range 20 {
			x := some(s).A
			wrapped := duo.Inv(duo.Mul(x, uAndOne().A))
			check(t, "Inv", sext.Inv(api.Fp6{A: x, B: zero, C: zero}), api.Fp6{A: duo.Inv(x)})
			check(t, "Inv", sext.Inv(api.Fp6{A: zero, B: x, C: zero}), api.Fp6{C: wrapped})
			check(t, "Inv", sext.Inv(api.Fp6{A: zero, B: zero, C: x}), api.Fp6{B: wrapped})
		}
	}
}

func checkLaws(t *testing.T, a, b, c api.Fp6) {
	t.Helper()
	zero := api.Fp6{}
	check(t, "a + b", sext.Add(a, b), sext.Add(b, a), a, b)
	check(t, "a b", sext.Mul(a, b), sext.Mul(b, a), a, b)
	check(t, "a + b + c", sext.Add(sext.Add(a, b), c), sext.Add(a, sext.Add(b, c)), a, b, c)
	check(t, "a b c", sext.Mul(sext.Mul(a, b), c), sext.Mul(a, sext.Mul(b, c)), a, b, c)
	check(t, "a (b + c)", sext.Mul(a, sext.Add(b, c)), sext.Add(sext.Mul(a, b), sext.Mul(a, c)), a, b, c)
	check(t, "a + 0", sext.Add(a, zero), sext.Clean(a), a)
	check(t, "a 1", sext.Mul(a, one()), sext.Clean(a), a)
	check(t, "a 0", sext.Mul(a, zero), zero, a)
	check(t, "a - a", sext.Add(a, sext.Neg(a)), zero, a)
	check(t, "a - b", sext.Sub(a, b), sext.Add(a, sext.Neg(b)), a, b)
}

// TestField: P6.2.
func TestField(t *testing.T) {
	s := rand.New(rand.NewSource(7))
	all := elements()
	for range 700 {
		a, b, c := all[s.Intn(len(all))], all[s.Intn(len(all))], some(s)
		checkLaws(t, a, b, c)
		checkLaws(t, c, a, b)
	}
	for _, a := range all {
		if !isZero(a) {
			check(t, "a / a", sext.Mul(a, sext.Inv(a)), one(), a)
			check(t, "1 / (1 / a)", sext.Inv(sext.Inv(a)), sext.Clean(a), a)
		}
	}
}

// TestInvOfProduct: P6.2, it is the product of both inverses.
func TestInvOfProduct(t *testing.T) {
	all := elements()
	for i, a := range all {
		b := all[(5*i+2)%len(all)]
		check(t, "1 / (a b)", sext.Inv(sext.Mul(a, b)), sext.Mul(sext.Inv(a), sext.Inv(b)), a, b)
	}
}
