package full_test

import (
	"math/big"
	"math/rand"
	"testing"

	"chirograph/api"
	"chirograph/full"
	"chirograph/sext"
)

const size = 48

// prime is p, read from chapter 4's own digits.
var prime, _ = new(big.Int).SetString("1A0111EA397FE69A4B1BA7B6434BACD764774B84F38512BF6730D2A0F6B0F6241EABFFFEB153FFFFB9FEFFFFFFFFAAAB", 16)

func value(a api.Fp) *big.Int {
	n := new(big.Int)
	for i := range len(a) {
		n.Lsh(n, 64)
		n.Or(n, new(big.Int).SetUint64(a[len(a)-1-i]))
	}
	return n
}

// whole is the number n as it is, which must fit.
func whole(n *big.Int) api.Fp {
	var a api.Fp
	for i, x := range n.FillBytes(make([]byte, size)) {
		a[5-i/8] = a[5-i/8]<<8 | uint64(x)
	}
	return a
}

func plus(n *big.Int, d int64) *big.Int { return new(big.Int).Add(n, big.NewInt(d)) }

func times(n *big.Int, k int64) *big.Int { return new(big.Int).Mul(n, big.NewInt(k)) }

func twoTo(n uint) *big.Int { return new(big.Int).Lsh(big.NewInt(1), n) }

// edgeNumbers are at and beside 0, 1, p - 1, p, twice and nine times p, and
// 2^384 - 1.
func edgeNumbers() []api.Fp {
	all := []api.Fp{{0}, {1}, {2}}
	for d := int64(-2); d <= 1; d++ {
		all = append(all, whole(plus(prime, d)))
	}
	all = append(all, whole(times(prime, 2)), whole(plus(times(prime, 2), 1)), whole(times(prime, 9)))
	return append(all, whole(plus(twoTo(384), -2)), whole(plus(twoTo(384), -1)))
}

// twelve are the numbers of an element: A's six, B's six.
type twelve [12]api.Fp

func (n twelve) put() api.Fp12 {
	half := func(n []api.Fp) api.Fp6 {
		return api.Fp6{A: api.Fp2{A: n[0], B: n[1]}, B: api.Fp2{A: n[2], B: n[3]}, C: api.Fp2{A: n[4], B: n[5]}}
	}
	return api.Fp12{A: half(n[:6]), B: half(n[6:])}
}

func numbers(a api.Fp12) twelve {
	return twelve{
		a.A.A.A, a.A.A.B, a.A.B.A, a.A.B.B, a.A.C.A, a.A.C.B,
		a.B.A.A, a.B.A.B, a.B.B.A, a.B.B.B, a.B.C.A, a.B.C.B,
	}
}

// someNumber is any of 384 bits: most are not below p.
func someNumber(s *rand.Rand) api.Fp {
	var a api.Fp
	for i := range a {
		a[i] = s.Uint64()
	}
	return a
}

// somePart is any below p.
func somePart(s *rand.Rand) api.Fp { return whole(new(big.Int).Rand(s, prime)) }

func someOf(s *rand.Rand, one func(*rand.Rand) api.Fp) api.Fp12 {
	var n twelve
	for i := range n {
		n[i] = one(s)
	}
	return n.put()
}

func some(s *rand.Rand) api.Fp12 { return someOf(s, somePart) }

// edges have each edge number at each place, beside nothing, beside ordinary
// numbers and beside other edge numbers.
func edges() []api.Fp12 {
	s := rand.New(rand.NewSource(1))
	all := edgeNumbers()
	anyEdge := func(s *rand.Rand) api.Fp { return all[s.Intn(len(all))] }
	var out []api.Fp12
	for _, n := range all {
		for place := range 12 {
			for _, around := range []twelve{{}, numbers(some(s)), numbers(someOf(s, anyEdge))} {
				around[place] = n
				out = append(out, around.put())
			}
		}
	}
	for range 50 {
		out = append(out, someOf(s, anyEdge))
	}
	return out
}

// zeros are 0 in some of its forms, p among them.
func zeros() []api.Fp6 {
	p := whole(prime)
	part, twice := api.Fp2{A: p, B: p}, api.Fp2{A: whole(times(prime, 2)), B: p}
	return []api.Fp6{{}, {A: part}, {B: part}, {C: part}, {A: part, B: part, C: part}, {A: twice, C: twice}}
}

// withHoles are elements with A or B 0, or both.
func withHoles() []api.Fp12 {
	s := rand.New(rand.NewSource(2))
	var out []api.Fp12
	for _, zero := range zeros() {
		for range 2 {
			out = append(out, api.Fp12{A: some(s).A, B: zero}, api.Fp12{A: zero, B: some(s).A})
		}
		out = append(out, api.Fp12{A: zero, B: zero})
	}
	return append(out, full.One(), w(), v(), u())
}

// elements are the edges, those with holes, and ordinary ones, also with numbers
// that are not below p.
func elements() []api.Fp12 {
	s := rand.New(rand.NewSource(3))
	all := append(edges(), withHoles()...)
	for range 15 {
		all = append(all, some(s), someOf(s, someNumber))
	}
	return all
}

// few are some of all elements of each kind, for calls that take long.
func few(step int) []api.Fp12 {
	var out []api.Fp12
	for i, a := range elements() {
		if i%step == 0 {
			out = append(out, a)
		}
	}
	return out
}

func isZero(a api.Fp12) bool {
	for _, n := range numbers(a) {
		if new(big.Int).Mod(value(n), prime).Sign() != 0 {
			return false
		}
	}
	return true
}

// wide is an element as a polynomial in w alone, in the library's numbers: as u
// is the sixth power of w, less 1, and u u is -1, the twelfth power is twice the
// sixth one, less 2.
type wide [12]*big.Int

// raised is which power of w stands with a part: A's have 0, 2 and 4, B's have
// 1, 3 and 5.
func raised(part int) int { return 2*(part%3) + part/3 }

func from(a api.Fp12) wide {
	var out wide
	n := numbers(a)
	for i := range 6 {
		plain, upright := value(n[2*i]), value(n[2*i+1])
		out[raised(i)] = new(big.Int).Sub(plain, upright)
		out[raised(i)+6] = upright
	}
	return out.rest()
}

func (x wide) rest() wide {
	for i := range x {
		x[i] = new(big.Int).Mod(x[i], prime)
	}
	return x
}

func (x wide) put() api.Fp12 {
	var n twelve
	for i := range 6 {
		upright := x[raised(i)+6]
		plain := new(big.Int).Add(x[raised(i)], upright)
		n[2*i], n[2*i+1] = whole(plain.Mod(plain, prime)), whole(upright)
	}
	return n.put()
}

func (x wide) plus(y wide) wide {
	var out wide
	for i := range out {
		out[i] = new(big.Int).Add(x[i], y[i])
	}
	return out.rest()
}

func (x wide) times(y wide) wide {
	var long [23]*big.Int
	for i := range long {
		long[i] = new(big.Int)
	}
	one := new(big.Int)
	for i := range x {
		for j := range y {
			long[i+j].Add(long[i+j], one.Mul(x[i], y[j]))
		}
	}
	for i := 22; i >= 12; i-- {
		double := new(big.Int).Lsh(long[i], 1)
		long[i-6].Add(long[i-6], double)
		long[i-12].Sub(long[i-12], double)
	}
	return wide(long[:12]).rest()
}

func (x wide) power(e *big.Int) wide {
	out := from(unit())
	for i := range e.BitLen() {
		out = out.times(out)
		if e.Bit(e.BitLen()-1-i) == 1 {
			out = out.times(x)
		}
	}
	return out
}

// turned has -w in the place of w.
func (x wide) turned() wide {
	for i := 1; i < 12; i += 2 {
		x[i] = new(big.Int).Neg(x[i])
	}
	return x.rest()
}

// at has y in the place of w.
func (x wide) at(y wide) wide {
	out := from(api.Fp12{})
	for i := range x {
		out = out.times(y)
		out[0] = new(big.Int).Add(out[0], x[11-i])
	}
	return out.rest()
}

func unit() api.Fp12 { return twelve{{1}}.put() }

func w() api.Fp12 { return api.Fp12{B: unit().A} }

func v() api.Fp12 { return api.Fp12{A: api.Fp6{B: unit().A.A}} }

func u() api.Fp12 { return twelve{1: {1}}.put() }

func check(t *testing.T, name string, got, want api.Fp12, args ...api.Fp12) {
	t.Helper()
	if got != want {
		t.Fatalf("%s of %x = %x, not %x", name, args, got, want)
	}
	for _, n := range numbers(got) {
		if value(n).Cmp(prime) >= 0 {
			t.Fatalf("%s of %x = %x: not below p", name, args, got)
		}
	}
}

// TestOne: P7.1.
func TestOne(t *testing.T) {
	check(t, "One", full.One(), unit())
	for _, a := range elements() {
		check(t, "a 1", full.Mul(a, full.One()), from(a).put(), a)
		check(t, "1 a", full.Mul(full.One(), a), from(a).put(), a)
	}
}

// TestEachAlone: P7.1, the calls that take one.
func TestEachAlone(t *testing.T) {
	for _, a := range elements() {
		x := from(a)
		check(t, "Clean", full.Clean(a), x.put(), a)
		check(t, "Conj", full.Conj(a), x.turned().put(), a)
	}
}

// TestPartByPart: P7.1, each part is what sext makes of the same parts.
func TestPartByPart(t *testing.T) {
	all := elements()
	for i, a := range all {
		b := all[(7*i+3)%len(all)]
		check(t, "Clean", full.Clean(a), api.Fp12{A: sext.Clean(a.A), B: sext.Clean(a.B)}, a)
		check(t, "Conj", full.Conj(a), api.Fp12{A: sext.Clean(a.A), B: sext.Neg(a.B)}, a)
		check(t, "Add", full.Add(a, b), api.Fp12{A: sext.Add(a.A, b.A), B: sext.Add(a.B, b.B)}, a, b)
		check(t, "Mul", full.Mul(a, b), api.Fp12{
			A: sext.Add(sext.Mul(a.A, b.A), sext.Shift(sext.Mul(a.B, b.B))),
			B: sext.Add(sext.Mul(a.A, b.B), sext.Mul(a.B, b.A)),
		}, a, b)
	}
}

func checkPair(t *testing.T, a, b api.Fp12) {
	t.Helper()
	x, y := from(a), from(b)
	check(t, "Add", full.Add(a, b), x.plus(y).put(), a, b)
	check(t, "Mul", full.Mul(a, b), x.times(y).put(), a, b)
}

// TestPairs: P7.1, the calls that take two.
func TestPairs(t *testing.T) {
	t.Parallel()
	all := elements()
	for i, a := range all {
		for j := i % 61; j < len(all); j += 61 {
			checkPair(t, a, all[j])
		}
	}
	s := rand.New(rand.NewSource(4))
	for range 300 {
		checkPair(t, some(s), someOf(s, someNumber))
		checkPair(t, someOf(s, someNumber), some(s))
	}
}

// TestHoles: P7.1, each element with A or B 0 against each other one.
func TestHoles(t *testing.T) {
	all := withHoles()
	for _, a := range all {
		for _, b := range all {
			checkPair(t, a, b)
		}
	}
}

// TestPowersOfW: P7.1, products of w with itself and with all elements.
func TestPowersOfW(t *testing.T) {
	check(t, "w w", full.Mul(w(), w()), v())
	check(t, "w w w", full.Mul(v(), w()), api.Fp12{B: v().A})
	check(t, "v w w", full.Mul(v(), full.Mul(w(), w())), api.Fp12{A: api.Fp6{C: unit().A.A}})
	power := full.One()
	for i := range 24 {
		want := from(w()).power(big.NewInt(int64(i))).put()
		check(t, "w, multiplied", power, want)
		check(t, "Pow of w", full.Pow(w(), api.Fp{uint64(i)}), want)
		power = full.Mul(power, w())
	}
	for _, a := range elements() {
		checkPair(t, a, w())
		checkPair(t, w(), a)
	}
}

// TestExamples: the chapter's.
func TestExamples(t *testing.T) {
	check(t, "Mul", full.Mul(w(), w()), v(), w(), w())
	check(t, "Conj", full.Conj(w()), twelve{6: whole(plus(prime, -1))}.put(), w())
	check(t, "Pow", full.Pow(w(), api.Fp{6}), twelve{{1}, {1}}.put(), w())
}

// checkInv holds Inv by its product, reckoned in the library's numbers.
func checkInv(t *testing.T, a api.Fp12) {
	t.Helper()
	got := full.Inv(a)
	if isZero(a) {
		check(t, "Inv", got, api.Fp12{}, a)
		return
	}
	check(t, "Inv, times it", from(a).times(from(got)).put(), unit(), a)
	check(t, "Inv", got, from(got).put(), a)
}

// TestInv: P7.1.
func TestInv(t *testing.T) {
	for _, a := range elements() {
		checkInv(t, a)
	}
	s := rand.New(rand.NewSource(5))
	for range 100 {
		checkInv(t, some(s))
		checkInv(t, someOf(s, someNumber))
	}
}

// TestInvByPower: P7.1, by another way: a to the power of p^12 - 2.
func TestInvByPower(t *testing.T) {
	t.Parallel()
	e := plus(new(big.Int).Exp(prime, big.NewInt(12), nil), -2)
	s := rand.New(rand.NewSource(6))
	for _, a := range []api.Fp12{some(s), someOf(s, someNumber), {A: some(s).A}, {B: some(s).A}} {
		check(t, "Inv", full.Inv(a), from(a).power(e).put(), a)
	}
}

// TestInvOfZero: P7.1, 0 in all its forms, which are no others than 0.
func TestInvOfZero(t *testing.T) {
	forms := []api.Fp{{}, whole(prime), whole(times(prime, 2)), whole(times(prime, 9))}
	for _, form := range forms {
		var zero twelve
		for i := range zero {
			zero[i] = form
		}
		check(t, "Inv", full.Inv(zero.put()), api.Fp12{}, zero.put())
	}
	s := rand.New(rand.NewSource(7))
	for range 200 {
		zero := someOf(s, func(s *rand.Rand) api.Fp { return forms[s.Intn(len(forms))] })
		check(t, "Inv", full.Inv(zero), api.Fp12{}, zero)
	}
}

// TestInvOfOnePart: P7.1, elements with A or B 0, also written as p: of A it is
// sext's, of B w it is w divided by v B.
func TestInvOfOnePart(t *testing.T) {
	s := rand.New(rand.NewSource(8))
	for _, zero := range zeros() {
		for range 5 {
			x := some(s).A
			check(t, "Inv", full.Inv(api.Fp12{A: x, B: zero}), api.Fp12{A: sext.Inv(x)})
			check(t, "Inv", full.Inv(api.Fp12{A: zero, B: x}), api.Fp12{B: sext.Inv(sext.Shift(x))})
		}
	}
}

func checkPow(t *testing.T, a api.Fp12, e *big.Int) {
	t.Helper()
	want := from(a).power(e).put()
	if got := full.Pow(a, whole(e)); got != want {
		t.Fatalf("Pow of %x to %x = %x, not %x", a, e, got, want)
	}
}

// TestPowSmall: P7.2, all elements to the first powers.
func TestPowSmall(t *testing.T) {
	for _, a := range elements() {
		check(t, "Pow to 0", full.Pow(a, api.Fp{}), unit(), a)
		check(t, "Pow to 1", full.Pow(a, api.Fp{1}), from(a).put(), a)
		check(t, "Pow to 2", full.Pow(a, api.Fp{2}), from(a).times(from(a)).put(), a)
		check(t, "Pow to 3", full.Pow(a, api.Fp{3}), full.Mul(a, full.Mul(a, a)), a)
	}
}

// greatNumbers are exponents at and beside p and the limbs' ends, and 2^384 - 1.
func greatNumbers() []*big.Int {
	all := []*big.Int{plus(prime, -2), plus(prime, -1), prime, plus(prime, 1), plus(prime, 2)}
	for _, n := range []uint{64, 128, 192, 256, 320} {
		all = append(all, plus(twoTo(n), -1), twoTo(n), plus(twoTo(n), 1))
	}
	return append(all, times(prime, 2), twoTo(383), plus(twoTo(384), -2), plus(twoTo(384), -1))
}

// TestPowGreat: P7.2, the exponent as it is: none of these is taken modulo p.
func TestPowGreat(t *testing.T) {
	t.Parallel()
	s := rand.New(rand.NewSource(9))
	for _, e := range greatNumbers() {
		checkPow(t, some(s), e)
		checkPow(t, someOf(s, someNumber), e)
		checkPow(t, api.Fp12{A: some(s).A}, e)
		checkPow(t, api.Fp12{B: some(s).A}, e)
		checkPow(t, w(), e)
	}
	for range 20 {
		checkPow(t, some(s), value(someNumber(s)))
		checkPow(t, some(s), new(big.Int).SetUint64(s.Uint64()))
	}
}

// TestPowEdges: P7.2, elements with edge numbers to great powers.
func TestPowEdges(t *testing.T) {
	t.Parallel()
	exponents := greatNumbers()
	for i, a := range few(17) {
		checkPow(t, a, exponents[i%len(exponents)])
	}
}

// TestPowOfZero: P7.2, 0 in its forms is 0 to all powers but that of 0; 1 is 1.
func TestPowOfZero(t *testing.T) {
	t.Parallel()
	s := rand.New(rand.NewSource(10))
	exponents := append(greatNumbers(), big.NewInt(1), big.NewInt(2), value(someNumber(s)))
	for i, e := range exponents {
		form := zeros()[i%len(zeros())]
		zero := api.Fp12{A: form, B: form}
		check(t, "Pow", full.Pow(zero, whole(e)), api.Fp12{}, zero)
		check(t, "Pow to 0", full.Pow(zero, api.Fp{}), unit(), zero)
		check(t, "Pow", full.Pow(full.One(), whole(e)), unit(), full.One())
	}
}

// TestPowNotModulo: P7.2, to the power of p is not to that of 0, nor one more to
// that of 1.
func TestPowNotModulo(t *testing.T) {
	s := rand.New(rand.NewSource(11))
	a := some(s)
	if full.Pow(a, whole(prime)) == full.One() {
		t.Fatal("Pow to p is Pow to 0")
	}
	if full.Pow(a, whole(plus(prime, 1))) == a {
		t.Fatal("Pow to p + 1 is Pow to 1")
	}
}

// TestFrob: P7.2, all elements. The power of p of a sum is that of its parts, and
// that of a number below p is the number: so a's is a with the power of p of w,
// multiplied up in the library's numbers, in the place of w.
func TestFrob(t *testing.T) {
	turned := from(w()).power(prime)
	for _, a := range elements() {
		check(t, "Frob", full.Frob(a), from(a).at(turned).put(), a)
	}
}

// TestFrobByPower: P7.2, against the power of p itself.
func TestFrobByPower(t *testing.T) {
	t.Parallel()
	for _, a := range few(23) {
		want := from(a).power(prime).put()
		check(t, "Frob", full.Frob(a), want, a)
		check(t, "Pow to p", full.Pow(a, whole(prime)), want, a)
	}
	for i := range 12 {
		var n twelve
		n[i] = api.Fp{1}
		check(t, "Frob", full.Frob(n.put()), full.Pow(n.put(), whole(prime)), n.put())
	}
}

// TestFrobsRound: P7.3, six are Conj, twelve are none.
func TestFrobsRound(t *testing.T) {
	for _, a := range elements() {
		x := a
		for i := range 12 {
			if i == 6 {
				check(t, "six Frobs", x, full.Conj(a), a)
			}
			x = full.Frob(x)
		}
		check(t, "twelve Frobs", x, full.Clean(a), a)
		check(t, "two Conjs", full.Conj(full.Conj(a)), full.Clean(a), a)
	}
}

// TestFrobOfBoth: P7.3, of sums and of products.
func TestFrobOfBoth(t *testing.T) {
	s := rand.New(rand.NewSource(12))
	all := elements()
	for range 1000 {
		a, b := all[s.Intn(len(all))], all[s.Intn(len(all))]
		x, y := full.Frob(a), full.Frob(b)
		check(t, "Frob of a + b", full.Frob(full.Add(a, b)), full.Add(x, y), a, b)
		check(t, "Frob of a b", full.Frob(full.Mul(a, b)), full.Mul(x, y), a, b)
	}
	for _, a := range all {
		check(t, "Frob of 1 / a", full.Frob(full.Inv(a)), full.Inv(full.Frob(a)), a)
	}
}

// minus is the negative: nothing here answers it but a product.
func minus(a api.Fp12) api.Fp12 { return full.Mul(a, twelve{whole(plus(prime, -1))}.put()) }

func checkLaws(t *testing.T, a, b, c api.Fp12) {
	t.Helper()
	zero := api.Fp12{}
	check(t, "a + b", full.Add(a, b), full.Add(b, a), a, b)
	check(t, "a b", full.Mul(a, b), full.Mul(b, a), a, b)
	check(t, "a + b + c", full.Add(full.Add(a, b), c), full.Add(a, full.Add(b, c)), a, b, c)
	check(t, "a b c", full.Mul(full.Mul(a, b), c), full.Mul(a, full.Mul(b, c)), a, b, c)
	check(t, "a (b + c)", full.Mul(a, full.Add(b, c)), full.Add(full.Mul(a, b), full.Mul(a, c)), a, b, c)
	check(t, "a + 0", full.Add(a, zero), full.Clean(a), a)
	check(t, "a 0", full.Mul(a, zero), zero, a)
	check(t, "a - a", full.Add(a, minus(a)), zero, a)
}

// TestField: P7.3.
func TestField(t *testing.T) {
	t.Parallel()
	s := rand.New(rand.NewSource(13))
	all := elements()
	for range 300 {
		a, b, c := all[s.Intn(len(all))], all[s.Intn(len(all))], some(s)
		checkLaws(t, a, b, c)
		checkLaws(t, c, a, b)
	}
	for i, a := range all {
		b := all[(5*i+2)%len(all)]
		check(t, "1 / (a b)", full.Inv(full.Mul(a, b)), full.Mul(full.Inv(a), full.Inv(b)), a, b)
		if !isZero(a) {
			check(t, "a / a", full.Mul(a, full.Inv(a)), unit(), a)
			check(t, "1 / (1 / a)", full.Inv(full.Inv(a)), full.Clean(a), a)
		}
	}
}

// TestPowersAddUp: P7.3, also where the sum of the exponents is beyond p.
func TestPowersAddUp(t *testing.T) {
	t.Parallel()
	s := rand.New(rand.NewSource(14))
	half := func() *big.Int { return new(big.Int).Rsh(value(someNumber(s)), uint(1+s.Intn(384))) }
	for _, a := range few(23) {
		d, e := half(), half()
		sum := whole(new(big.Int).Add(d, e))
		check(t, "a^d a^e", full.Mul(full.Pow(a, whole(d)), full.Pow(a, whole(e))), full.Pow(a, sum), a)
	}
	for range 10 {
		a, d, e := some(s), uint64(s.Uint32()), uint64(s.Uint32())
		check(t, "a^d^e", full.Pow(full.Pow(a, api.Fp{d}), api.Fp{e}), full.Pow(a, api.Fp{d * e}), a)
	}
}
