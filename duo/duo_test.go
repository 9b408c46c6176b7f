package duo_test

import (
	"math/big"
	"math/rand"
	"testing"

	"chirograph/api"
	"chirograph/duo"
	"chirograph/fp"
)

const size = 48

// prime is p, read from chapter 4's own digits.
var prime, _ = new(big.Int).SetString("1A0111EA397FE69A4B1BA7B6434BACD764774B84F38512BF6730D2A0F6B0F6241EABFFFEB153FFFFB9FEFFFFFFFFAAAB", 16)

// half is (p - 1) / 2.
func half() *big.Int { return new(big.Int).Rsh(prime, 1) }

func value(a api.Fp) *big.Int {
	n := new(big.Int)
	for i := range len(a) {
		n.Lsh(n, 64)
		n.Or(n, new(big.Int).SetUint64(a[len(a)-1-i]))
	}
	return n
}

// whole is the number n as it is, which must fit.
func whole(n *big.Int) api.Fp {
	var a api.Fp
	for i, x := range n.FillBytes(make([]byte, size)) {
		a[5-i/8] = a[5-i/8]<<8 | uint64(x)
	}
	return a
}

func plus(n *big.Int, d int64) *big.Int { return new(big.Int).Add(n, big.NewInt(d)) }

func isZero(a api.Fp) bool { return a == (api.Fp{}) }

// near is numbers at and just beside n, as far as they fit.
func near(n *big.Int) []api.Fp {
	var all []api.Fp
	for d := int64(-1); d <= 1; d++ {
		x := plus(n, d)
		if x.Sign() >= 0 && x.BitLen() <= 384 {
			all = append(all, whole(x))
		}
	}
	return all
}

// edgeParts are at and beside 0, 1, p's half, p, twice p and 2^384.
func edgeParts() []api.Fp {
	all := []api.Fp{{0}, {1}, {2}}
	for _, n := range []*big.Int{half(), prime, new(big.Int).Lsh(prime, 1)} {
		all = append(all, near(n)...)
	}
	all = append(all, whole(plus(half(), 2)), whole(plus(prime, -2)))
	end := new(big.Int).Lsh(big.NewInt(1), 384)
	return append(all, whole(plus(end, -2)), whole(plus(end, -1)))
}

// someNumber is any of 384 bits: most are not below p.
func someNumber(s *rand.Rand) api.Fp {
	var a api.Fp
	for i := range a {
		a[i] = s.Uint64()
	}
	return a
}

// somePart is any below p.
func somePart(s *rand.Rand) api.Fp { return whole(new(big.Int).Rand(s, prime)) }

func some(s *rand.Rand) api.Fp2 { return api.Fp2{A: somePart(s), B: somePart(s)} }

// edges are all elements of two edge parts.
func edges() []api.Fp2 {
	var all []api.Fp2
	for _, a := range edgeParts() {
		for _, b := range edgeParts() {
			all = append(all, api.Fp2{A: a, B: b})
		}
	}
	return all
}

// elements are the edges, and ordinary ones, also with parts that are not
// below p, and with one part 0.
func elements() []api.Fp2 {
	s := rand.New(rand.NewSource(1))
	all := edges()
	for range 15 {
		all = append(all, some(s), api.Fp2{A: someNumber(s), B: someNumber(s)})
		all = append(all, api.Fp2{A: somePart(s)}, api.Fp2{B: somePart(s)})
	}
	return all
}

// wide is an element in the library's numbers, which the tests reckon with.
type wide struct{ a, b *big.Int }

func from(x api.Fp2) wide {
	return wide{new(big.Int).Mod(value(x.A), prime), new(big.Int).Mod(value(x.B), prime)}
}

// of is the element whose parts are what a and b leave, divided by p.
func of(a, b *big.Int) wide {
	return wide{new(big.Int).Mod(a, prime), new(big.Int).Mod(b, prime)}
}

func (x wide) put() api.Fp2 { return api.Fp2{A: whole(x.a), B: whole(x.b)} }

func (x wide) plus(y wide) wide {
	return of(new(big.Int).Add(x.a, y.a), new(big.Int).Add(x.b, y.b))
}

func (x wide) minus(y wide) wide {
	return of(new(big.Int).Sub(x.a, y.a), new(big.Int).Sub(x.b, y.b))
}

func (x wide) times(y wide) wide {
	ac, bd := new(big.Int).Mul(x.a, y.a), new(big.Int).Mul(x.b, y.b)
	ad, bc := new(big.Int).Mul(x.a, y.b), new(big.Int).Mul(x.b, y.a)
	return of(ac.Sub(ac, bd), ad.Add(ad, bc))
}

func (x wide) power(e *big.Int) wide {
	out := wide{big.NewInt(1), big.NewInt(0)}
	for i := range e.BitLen() {
		out = out.times(out)
		if e.Bit(e.BitLen()-1-i) == 1 {
			out = out.times(x)
		}
	}
	return out
}

func (x wide) high() bool {
	if x.b.Sign() == 0 {
		return x.a.Cmp(half()) > 0
	}
	return x.b.Cmp(half()) > 0
}

// norm is A A + B B.
func (x wide) norm() *big.Int {
	n := new(big.Int).Mul(x.a, x.a)
	n.Add(n, new(big.Int).Mul(x.b, x.b))
	return n.Mod(n, prime)
}

// root is by powers of the element itself, another way than by roots of its
// parts: x0, the power of (p + 1) / 4, has a square that is the element times
// one whose norm is 1 or -1, which u or a power then takes off.
func (x wide) root() (wide, bool) {
	one, minus := wide{big.NewInt(1), big.NewInt(0)}, wide{plus(prime, -1), big.NewInt(0)}
	start := x.power(new(big.Int).Rsh(plus(prime, -3), 2))
	first := start.times(x)
	sign := start.times(first)
	var out wide
	if sign.put() == minus.put() {
		out = first.times(wide{big.NewInt(0), big.NewInt(1)})
	} else {
		out = first.times(one.plus(sign).power(half()))
	}
	if out.high() {
		out = of(new(big.Int), new(big.Int)).minus(out)
	}
	return out, out.times(out).put() == x.put()
}

func check(t *testing.T, name string, got, want api.Fp2, args ...api.Fp2) {
	t.Helper()
	if got != want {
		t.Fatalf("%s of %x = %x, not %x", name, args, got, want)
	}
	if value(got.A).Cmp(prime) >= 0 || value(got.B).Cmp(prime) >= 0 {
		t.Fatalf("%s of %x = %x: not below p", name, args, got)
	}
}

// TestEachAlone: P5.1, the calls that take one.
func TestEachAlone(t *testing.T) {
	for _, a := range elements() {
		x := from(a)
		check(t, "Clean", duo.Clean(a), x.put(), a)
		check(t, "Neg", duo.Neg(a), of(new(big.Int).Neg(x.a), new(big.Int).Neg(x.b)).put(), a)
		check(t, "Conj", duo.Conj(a), of(x.a, new(big.Int).Neg(x.b)).put(), a)
	}
}

func checkPair(t *testing.T, a, b api.Fp2) {
	t.Helper()
	x, y := from(a), from(b)
	check(t, "Add", duo.Add(a, b), x.plus(y).put(), a, b)
	check(t, "Sub", duo.Sub(a, b), x.minus(y).put(), a, b)
	check(t, "Mul", duo.Mul(a, b), x.times(y).put(), a, b)
}

// TestPairs: P5.1, the calls that take two.
func TestPairs(t *testing.T) {
	all := elements()
	for i, a := range all {
		for j := i % 3; j < len(all); j += 3 {
			checkPair(t, a, all[j])
			checkPair(t, all[j], a)
		}
	}
	s := rand.New(rand.NewSource(2))
	for range 5000 {
		checkPair(t, some(s), api.Fp2{A: someNumber(s), B: someNumber(s)})
	}
}

// inverse is by a power of the element itself: that of p p - 2.
func inverse(a api.Fp2) api.Fp2 {
	e := new(big.Int).Mul(prime, prime)
	return from(a).power(plus(e, -2)).put()
}

// TestInv: P5.1.
func TestInv(t *testing.T) {
	one := api.Fp2{A: api.Fp{1}}
	for i, a := range elements() {
		got := duo.Inv(a)
		if i%4 == 0 {
			check(t, "Inv", got, inverse(a), a)
		}
		if duo.Clean(a) == (api.Fp2{}) {
			check(t, "Inv", got, api.Fp2{}, a)
		} else {
			check(t, "Inv, times it", from(a).times(from(got)).put(), one, a)
			check(t, "Inv", got, duo.Clean(got), a)
		}
	}
}

// TestInvOfZero: P5.1, 0 in all its forms, and elements with one such part.
func TestInvOfZero(t *testing.T) {
	for i := range int64(10) {
		for j := range int64(10) {
			zero := api.Fp2{A: whole(new(big.Int).Mul(prime, big.NewInt(i))), B: whole(new(big.Int).Mul(prime, big.NewInt(j)))}
			check(t, "Inv", duo.Inv(zero), api.Fp2{}, zero)
		}
	}
	p := whole(prime)
	check(t, "Inv", duo.Inv(api.Fp2{A: api.Fp{1}, B: p}), api.Fp2{A: api.Fp{1}})
	check(t, "Inv", duo.Inv(api.Fp2{A: p, B: api.Fp{1}}), api.Fp2{B: whole(plus(prime, -1))})
	check(t, "Inv", duo.Inv(api.Fp2{A: fp.Small(3), B: p}), api.Fp2{A: fp.Inv(fp.Small(3))})
}

// TestExamples: the chapter's.
func TestExamples(t *testing.T) {
	u, minus := api.Fp2{B: api.Fp{1}}, api.Fp2{A: whole(plus(prime, -1))}
	check(t, "Mul", duo.Mul(u, u), minus, u, u)
	root, why := duo.Root(minus)
	if why != api.OK {
		t.Fatalf("Root of -1: %d", why)
	}
	check(t, "Root", root, u, minus)
	check(t, "Inv", duo.Inv(u), api.Fp2{B: whole(plus(prime, -1))}, u)
	check(t, "Conj", duo.Conj(api.Fp2{A: api.Fp{2}, B: api.Fp{3}}), api.Fp2{A: api.Fp{2}, B: whole(plus(prime, -3))})
}

// TestHigh: P5.2, and that just one of an element and its negative is high.
func TestHigh(t *testing.T) {
	for _, a := range elements() {
		if got, want := duo.High(a), from(a).high(); got != want {
			t.Errorf("High(%x) = %v", a, got)
		}
		if duo.Clean(a) != (api.Fp2{}) && duo.High(a) == duo.High(duo.Neg(a)) {
			t.Errorf("High of %x and of its negative are the same", a)
		}
	}
}

// TestHighEdges: P5.2, written out.
func TestHighEdges(t *testing.T) {
	zero, one, p, twice := api.Fp{}, api.Fp{1}, whole(prime), whole(new(big.Int).Lsh(prime, 1))
	low, high, top := whole(half()), whole(plus(half(), 1)), whole(plus(prime, -1))
	over := whole(plus(new(big.Int).Add(prime, half()), 1))
	rows := []struct {
		a, b api.Fp
		want bool
	}{
		{zero, zero, false}, {p, p, false}, {p, zero, false}, {zero, twice, false},
		{one, zero, false}, {low, zero, false}, {high, zero, true}, {top, zero, true},
		{low, p, false}, {high, p, true}, {top, twice, true}, {over, p, true},
		{zero, one, false}, {zero, low, false}, {zero, high, true}, {zero, top, true},
		{high, one, false}, {top, low, false}, {top, high, true}, {low, high, true},
		{one, top, true}, {low, over, true}, {over, one, false},
	}
	for _, row := range rows {
		if duo.High(api.Fp2{A: row.a, B: row.b}) != row.want {
			t.Errorf("High of %x, %x is not %v", row.a, row.b, row.want)
		}
	}
}

// checkRoot holds Root against the root by the other way.
func checkRoot(t *testing.T, a api.Fp2) bool {
	t.Helper()
	got, why := duo.Root(a)
	want, ok := from(a).root()
	if !ok {
		if got != (api.Fp2{}) || why != api.ErrRoot {
			t.Fatalf("Root(%x) = %x, %d, not ErrRoot", a, got, why)
		}
		return false
	}
	if why != api.OK {
		t.Fatalf("Root(%x): %d", a, why)
	}
	check(t, "Root", got, want.put(), a)
	if from(got).high() || from(got).times(from(got)).put() != duo.Clean(a) {
		t.Fatalf("Root(%x) = %x is high, or no root", a, got)
	}
	return true
}

// TestRoot: P5.2, of all kinds of elements.
func TestRoot(t *testing.T) {
	seen := map[bool]int{}
	for _, a := range elements() {
		seen[checkRoot(t, a)]++
	}
	s := rand.New(rand.NewSource(3))
	for range 100 {
		seen[checkRoot(t, some(s))]++
	}
	if seen[true] < 50 || seen[false] < 50 {
		t.Errorf("not all kinds were tried: %v", seen)
	}
}

// TestRootOfZero: P5.2, 0 in all its forms.
func TestRootOfZero(t *testing.T) {
	p, twice := whole(prime), whole(new(big.Int).Lsh(prime, 1))
	for _, a := range []api.Fp{{}, p, twice} {
		for _, b := range []api.Fp{{}, p, twice} {
			zero := api.Fp2{A: a, B: b}
			if root, why := duo.Root(zero); root != (api.Fp2{}) || why != api.OK {
				t.Errorf("Root(%x) = %x, %d", zero, root, why)
			}
		}
	}
}

// TestRootOfPlain: P5.2 and P5.4, elements with B 0: the root of chapter 4, or
// u times that of the negative.
func TestRootOfPlain(t *testing.T) {
	s := rand.New(rand.NewSource(4))
	all := edgeParts()
	for range 50 {
		all = append(all, somePart(s), someNumber(s))
	}
	seen := map[bool]int{}
	for i, x := range all {
		b := []api.Fp{{}, whole(prime)}[i%2]
		root, why := fp.Root(x)
		want := api.Fp2{A: root}
		if why != api.OK {
			root, _ = fp.Root(fp.Neg(x))
			want = api.Fp2{B: root}
		}
		seen[why == api.OK]++
		got, why := duo.Root(api.Fp2{A: x, B: b})
		if why != api.OK {
			t.Fatalf("Root(%x, 0): %d", x, why)
		}
		check(t, "Root", got, want, api.Fp2{A: x, B: b})
	}
	if len(seen) != 2 {
		t.Errorf("not all kinds were tried: %v", seen)
	}
}

// TestRootOfUpright: P5.2, elements with A 0: of 2 u it is 1 + u.
func TestRootOfUpright(t *testing.T) {
	one, top := api.Fp{1}, whole(plus(prime, -1))
	for _, zero := range []api.Fp{{}, whole(prime)} {
		for _, b := range edgeParts() {
			checkRoot(t, api.Fp2{A: zero, B: b})
		}
		root, why := duo.Root(api.Fp2{A: zero, B: fp.Small(2)})
		if why != api.OK {
			t.Fatal(why)
		}
		check(t, "Root", root, api.Fp2{A: one, B: one})
		root, why = duo.Root(api.Fp2{A: zero, B: fp.Small(-2)})
		if why != api.OK {
			t.Fatal(why)
		}
		check(t, "Root", root, api.Fp2{A: top, B: one})
	}
}

// TestRootOfSquare: P5.4, it is what was squared, or its negative.
func TestRootOfSquare(t *testing.T) {
	for _, a := range elements() {
		x := from(a)
		got, why := duo.Root(x.times(x).put())
		if why != api.OK {
			t.Fatalf("Root of the square of %x: %d", a, why)
		}
		want := duo.Clean(a)
		if x.high() {
			want = duo.Neg(a)
		}
		check(t, "Root of the square", got, want, a)
	}
}

// TestRootOfNoSquare: P5.2, a square times u + 1, which is none, has no root.
func TestRootOfNoSquare(t *testing.T) {
	none := from(api.Fp2{A: api.Fp{1}, B: api.Fp{1}})
	for _, a := range elements() {
		x := from(a)
		if x.norm().Sign() == 0 {
			continue
		}
		product := x.times(x).times(none).put()
		if root, why := duo.Root(product); root != (api.Fp2{}) || why != api.ErrRoot {
			t.Fatalf("Root(%x) = %x, %d", product, root, why)
		}
	}
}

// TestWhichHaveRoots: P5.4, by the norm's root in chapter 4.
func TestWhichHaveRoots(t *testing.T) {
	s := rand.New(rand.NewSource(5))
	all := elements()
	for range 300 {
		all = append(all, some(s))
	}
	for _, a := range all {
		_, why := duo.Root(a)
		_, under := fp.Root(whole(from(a).norm()))
		if isZero(fp.Clean(a.B)) && why != api.OK {
			t.Fatalf("Root(%x): %d", a, why)
		}
		if !isZero(fp.Clean(a.B)) && why != under {
			t.Fatalf("Root(%x): %d, and of the norm %d", a, why, under)
		}
	}
}

func checkLaws(t *testing.T, a, b, c api.Fp2) {
	t.Helper()
	zero, one := api.Fp2{}, api.Fp2{A: api.Fp{1}}
	check(t, "a + b", duo.Add(a, b), duo.Add(b, a), a, b)
	check(t, "a b", duo.Mul(a, b), duo.Mul(b, a), a, b)
	check(t, "a + b + c", duo.Add(duo.Add(a, b), c), duo.Add(a, duo.Add(b, c)), a, b, c)
	check(t, "a b c", duo.Mul(duo.Mul(a, b), c), duo.Mul(a, duo.Mul(b, c)), a, b, c)
	check(t, "a (b + c)", duo.Mul(a, duo.Add(b, c)), duo.Add(duo.Mul(a, b), duo.Mul(a, c)), a, b, c)
	check(t, "a + 0", duo.Add(a, zero), duo.Clean(a), a)
	check(t, "a 1", duo.Mul(a, one), duo.Clean(a), a)
	check(t, "a 0", duo.Mul(a, zero), zero, a)
	check(t, "a - a", duo.Add(a, duo.Neg(a)), zero, a)
	check(t, "a - b", duo.Sub(a, b), duo.Add(a, duo.Neg(b)), a, b)
}

// TestField: P5.3.
func TestField(t *testing.T) {
	s := rand.New(rand.NewSource(6))
	all := elements()
	one := api.Fp2{A: api.Fp{1}}
	for range 2000 {
		a, b, c := all[s.Intn(len(all))], all[s.Intn(len(all))], some(s)
		checkLaws(t, a, b, c)
		checkLaws(t, c, a, b)
	}
	for _, a := range all {
		if duo.Clean(a) != (api.Fp2{}) {
			check(t, "a / a", duo.Mul(a, duo.Inv(a)), one, a)
			check(t, "1 / (1 / a)", duo.Inv(duo.Inv(a)), duo.Clean(a), a)
		}
	}
}

// TestConj: P5.3, of sums and products, and of an element times its own.
func TestConj(t *testing.T) {
	s := rand.New(rand.NewSource(7))
	all := elements()
	for _, a := range all {
		b := all[s.Intn(len(all))]
		check(t, "Conj of a sum", duo.Conj(duo.Add(a, b)), duo.Add(duo.Conj(a), duo.Conj(b)), a, b)
		check(t, "Conj of a product", duo.Conj(duo.Mul(a, b)), duo.Mul(duo.Conj(a), duo.Conj(b)), a, b)
		check(t, "Conj of Conj", duo.Conj(duo.Conj(a)), duo.Clean(a), a)
		check(t, "a times Conj", duo.Mul(a, duo.Conj(a)), api.Fp2{A: whole(from(a).norm())}, a)
	}
}
