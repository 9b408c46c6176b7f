package fp_test

import (
	"math"
	"math/big"
	"math/rand"
	"strings"
	"testing"

	"chirograph/api"
	"chirograph/fp"
)

const (
	top  = 1<<64 - 1
	size = 48
)

// prime is p, read from the chapter's own digits.
func prime() *big.Int {
	digits := "1A0111EA397FE69A4B1BA7B6434BACD764774B84F38512BF6730D2A0F6B0F6241EABFFFEB153FFFFB9FEFFFFFFFFAAAB"
	p, _ := new(big.Int).SetString(digits, 16)
	return p
}

// half is (p - 1) / 2.
func half() *big.Int { return new(big.Int).Rsh(prime(), 1) }

func value(a api.Fp) *big.Int {
	n := new(big.Int)
	for i := range len(a) {
		n.Lsh(n, 64)
		n.Or(n, new(big.Int).SetUint64(a[len(a)-1-i]))
	}
	return n
}

// whole is the number n as it is, which must fit.
func whole(n *big.Int) api.Fp {
	var a api.Fp
	text := n.FillBytes(make([]byte, size))
	for i, x := range text {
		a[5-i/8] = a[5-i/8]<<8 | uint64(x)
	}
	return a
}

// left is what n leaves, divided by p.
func left(n *big.Int) *big.Int { return new(big.Int).Mod(n, prime()) }

// rest is the element that n leaves.
func rest(n *big.Int) api.Fp { return whole(left(n)) }

func plus(n *big.Int, d int64) *big.Int { return new(big.Int).Add(n, big.NewInt(d)) }

func power(bits uint) *big.Int { return new(big.Int).Lsh(big.NewInt(1), bits) }

// near is numbers at and just beside n, as far as they fit.
func near(n *big.Int) []api.Fp {
	var all []api.Fp
	for d := int64(-2); d <= 2; d++ {
		x := plus(n, d)
		if x.Sign() >= 0 && x.BitLen() <= 384 {
			all = append(all, whole(x))
		}
	}
	return all
}

// edges are numbers at and beside 0, p's half, the multiples of p as far as
// they fit, the limbs' ends and 2^384.
func edges() []api.Fp {
	all := near(half())
	for times := range int64(10) {
		all = append(all, near(new(big.Int).Mul(prime(), big.NewInt(times)))...)
	}
	for _, bits := range []uint{64, 128, 192, 256, 320, 380, 381, 383, 384} {
		all = append(all, near(power(bits))...)
	}
	return append(all, near(new(big.Int).Add(prime(), half()))...)
}

// someNumber is one whose limbs are often at an edge; most are not below p.
func someNumber(s *rand.Rand) api.Fp {
	limbs := []uint64{0, 0, 1, 2, 1 << 63, 1<<63 - 1, 1 << 32, top - 1, top}
	var a api.Fp
	for i := range a {
		if s.Intn(2) == 0 {
			a[i] = s.Uint64()
		} else {
			a[i] = limbs[s.Intn(len(limbs))]
		}
	}
	return a
}

// someElement is any below p.
func someElement(s *rand.Rand) api.Fp { return whole(new(big.Int).Rand(s, prime())) }

func numbers() []api.Fp {
	s := rand.New(rand.NewSource(1))
	all := edges()
	for range 30 {
		all = append(all, someNumber(s), someElement(s))
	}
	return all
}

func eachPair(visit func(a, b api.Fp)) {
	all := numbers()
	for _, a := range all {
		for _, b := range all {
			visit(a, b)
		}
	}
}

func check(t *testing.T, name string, got, want api.Fp, args ...api.Fp) {
	t.Helper()
	if got != want {
		t.Fatalf("%s of %x = %x, not %x", name, args, got, want)
	}
	if value(got).Cmp(prime()) >= 0 {
		t.Fatalf("%s of %x = %x: not below p", name, args, got)
	}
}

// TestRightClean: P4.1.
func TestRightClean(t *testing.T) {
	for _, a := range numbers() {
		if got, want := fp.Right(a), value(a).Cmp(prime()) < 0; got != want {
			t.Errorf("Right(%x) = %v", a, got)
		}
		check(t, "Clean", fp.Clean(a), rest(value(a)), a)
		if !fp.Right(fp.Clean(a)) || fp.Clean(fp.Clean(a)) != fp.Clean(a) {
			t.Errorf("Clean(%x) is not clean", a)
		}
	}
	p, less, more := whole(prime()), whole(plus(prime(), -1)), whole(plus(prime(), 1))
	if !fp.Right(api.Fp{}) || !fp.Right(less) || fp.Right(p) || fp.Right(more) || fp.Right(whole(plus(power(384), -1))) {
		t.Error("what is right at 0, p and 2^384 - 1")
	}
	check(t, "Clean", fp.Clean(less), less, less)
	check(t, "Clean", fp.Clean(p), api.Fp{}, p)
	check(t, "Clean", fp.Clean(more), api.Fp{1}, more)
}

// TestSmall: P4.1.
func TestSmall(t *testing.T) {
	s := rand.New(rand.NewSource(2))
	all := []int64{0, 1, 2, 3, 256, -1, -2, -3, math.MaxInt64, math.MaxInt64 - 1, math.MinInt64, math.MinInt64 + 1}
	for range 200 {
		all = append(all, int64(s.Uint64()))
	}
	for _, n := range all {
		check(t, "Small", fp.Small(n), rest(big.NewInt(n)))
	}
	check(t, "Small", fp.Small(0), api.Fp{})
	check(t, "Small", fp.Small(-1), whole(plus(prime(), -1)))
	check(t, "Small", fp.Small(math.MaxInt64), api.Fp{math.MaxInt64})
	check(t, "Small", fp.Small(math.MinInt64), whole(new(big.Int).Sub(prime(), power(63))))
}

// TestReckon: P4.2, the sum, the difference, the negative and the product.
func TestReckon(t *testing.T) {
	eachPair(func(a, b api.Fp) {
		x, y := value(a), value(b)
		check(t, "Add", fp.Add(a, b), rest(new(big.Int).Add(x, y)), a, b)
		check(t, "Sub", fp.Sub(a, b), rest(new(big.Int).Sub(x, y)), a, b)
		check(t, "Mul", fp.Mul(a, b), rest(new(big.Int).Mul(x, y)), a, b)
	})
	for _, a := range numbers() {
		check(t, "Neg", fp.Neg(a), rest(new(big.Int).Neg(value(a))), a)
	}
}

// TestReckonMany: P4.2, numbers of all kinds.
func TestReckonMany(t *testing.T) {
	s := rand.New(rand.NewSource(3))
	for range 20000 {
		a, b := someNumber(s), someElement(s)
		x, y := value(a), value(b)
		check(t, "Add", fp.Add(a, b), rest(new(big.Int).Add(x, y)), a, b)
		check(t, "Sub", fp.Sub(a, b), rest(new(big.Int).Sub(x, y)), a, b)
		check(t, "Mul", fp.Mul(a, b), rest(new(big.Int).Mul(x, y)), a, b)
	}
}

// inverse is by the extended Euclid of the library: by another way than a power.
func inverse(a api.Fp) api.Fp {
	n := new(big.Int).ModInverse(left(value(a)), prime())
	if n == nil {
		return api.Fp{}
	}
	return whole(n)
}

// TestInv: P4.2.
func TestInv(t *testing.T) {
	for _, a := range numbers() {
		check(t, "Inv", fp.Inv(a), inverse(a), a)
	}
	for times := range int64(10) {
		zero := whole(new(big.Int).Mul(prime(), big.NewInt(times)))
		check(t, "Inv", fp.Inv(zero), api.Fp{}, zero)
	}
}

// TestInvMany: P4.2, ordinary numbers, and such as take few or many steps of
// Euclid's: powers of 2 and what is beside them, below p, too, and their inverses.
func TestInvMany(t *testing.T) {
	s := rand.New(rand.NewSource(6))
	var all []api.Fp
	for bits := range uint(382) {
		for d := int64(-1); d <= 1; d++ {
			n := plus(power(bits), d)
			all = append(all, rest(n), rest(new(big.Int).Neg(n)), rest(new(big.Int).Rsh(prime(), bits)))
		}
	}
	for n := range int64(300) {
		all = append(all, rest(big.NewInt(n)), rest(big.NewInt(-n)))
	}
	for range 3000 {
		all = append(all, someNumber(s), someElement(s))
	}
	for _, a := range all {
		back := inverse(a)
		check(t, "Inv", fp.Inv(a), back, a)
		check(t, "Inv", fp.Inv(back), fp.Clean(a), back)
	}
}

// TestPow: P4.2.
func TestPow(t *testing.T) {
	all := edges()
	s := rand.New(rand.NewSource(4))
	for i, e := range all {
		for j := range 12 {
			a := all[(i+7*j)%len(all)]
			check(t, "Pow", fp.Pow(a, e), whole(new(big.Int).Exp(left(value(a)), value(e), prime())), a, e)
		}
	}
	for range 200 {
		a, e := someNumber(s), someNumber(s)
		check(t, "Pow", fp.Pow(a, e), whole(new(big.Int).Exp(value(a), value(e), prime())), a, e)
	}
}

// TestPowEdges: P4.2, the exponent is not taken modulo p.
func TestPowEdges(t *testing.T) {
	p, more := whole(prime()), whole(plus(prime(), 1))
	for _, a := range numbers() {
		check(t, "Pow", fp.Pow(a, api.Fp{}), api.Fp{1}, a)
		check(t, "Pow", fp.Pow(a, api.Fp{1}), fp.Clean(a), a)
		check(t, "Pow", fp.Pow(a, p), fp.Clean(a), a, p)
		check(t, "Pow", fp.Pow(a, more), fp.Mul(a, a), a, more)
	}
	check(t, "Pow", fp.Pow(api.Fp{2}, api.Fp{10}), api.Fp{1024})
	check(t, "Pow", fp.Pow(api.Fp{}, api.Fp{}), api.Fp{1})
	check(t, "Pow", fp.Pow(p, api.Fp{}), api.Fp{1})
	check(t, "Pow", fp.Pow(api.Fp{}, p), api.Fp{})
	check(t, "Pow", fp.Pow(p, api.Fp{5}), api.Fp{})
}

// TestHigh: P4.3, and of P4.5 that just one of an element and its negative is high.
func TestHigh(t *testing.T) {
	s := rand.New(rand.NewSource(5))
	all := numbers()
	for range 500 {
		all = append(all, someElement(s))
	}
	for _, a := range all {
		x := left(value(a))
		if got, want := fp.High(a), x.Cmp(half()) > 0; got != want {
			t.Errorf("High(%x) = %v", a, got)
		}
		if x.Sign() != 0 && fp.High(a) == fp.High(fp.Neg(a)) {
			t.Errorf("High of %x and of its negative are the same", a)
		}
	}
	for times := range int64(9) {
		round := new(big.Int).Mul(prime(), big.NewInt(times))
		zero, below := whole(round), whole(new(big.Int).Add(round, half()))
		next := whole(plus(value(below), 1))
		if fp.High(zero) || fp.High(below) || !fp.High(next) {
			t.Errorf("what is high, with %d times p", times)
		}
	}
}

// checkRoot asks for the root by the library's: by Euler's sign and another
// way to a root.
func checkRoot(t *testing.T, a api.Fp) {
	t.Helper()
	got, why := fp.Root(a)
	x := left(value(a))
	if big.Jacobi(x, prime()) < 0 {
		if got != (api.Fp{}) || why != api.ErrRoot {
			t.Fatalf("Root(%x) = %x, %d", a, got, why)
		}
		return
	}
	want := new(big.Int).ModSqrt(x, prime())
	if want.Cmp(half()) > 0 {
		want.Sub(prime(), want)
	}
	if why != api.OK {
		t.Fatalf("Root(%x): %d", a, why)
	}
	check(t, "Root", got, whole(want), a)
	if fp.High(got) || fp.Mul(got, got) != fp.Clean(a) {
		t.Fatalf("Root(%x) = %x is high, or no root", a, got)
	}
}

// TestRoot: P4.3.
func TestRoot(t *testing.T) {
	s := rand.New(rand.NewSource(6))
	for _, a := range numbers() {
		checkRoot(t, a)
		checkRoot(t, fp.Mul(a, a))
		checkRoot(t, fp.Neg(fp.Mul(a, a)))
	}
	for n := range int64(100) {
		checkRoot(t, fp.Small(n))
		checkRoot(t, fp.Small(-n))
	}
	for range 200 {
		checkRoot(t, someElement(s))
	}
	zeros := []api.Fp{{}, whole(prime()), whole(new(big.Int).Lsh(prime(), 1))}
	for _, zero := range zeros {
		if got, why := fp.Root(zero); got != (api.Fp{}) || why != api.OK {
			t.Errorf("Root(%x) = %x, %d", zero, got, why)
		}
	}
}

// TestRootOfSquare: P4.5, a square's root is what was squared, or its negative.
func TestRootOfSquare(t *testing.T) {
	for _, a := range numbers() {
		want := fp.Clean(a)
		if fp.High(a) {
			want = fp.Neg(a)
		}
		got, why := fp.Root(fp.Mul(a, a))
		if why != api.OK {
			t.Fatalf("Root of the square of %x: %d", a, why)
		}
		check(t, "Root of the square", got, want, a)
	}
}

func hasRoot(t *testing.T, a api.Fp) bool {
	t.Helper()
	root, why := fp.Root(a)
	if why != api.OK && (why != api.ErrRoot || root != (api.Fp{})) {
		t.Fatalf("Root(%x) = %x, %d", a, root, why)
	}
	return why == api.OK
}

// TestRootOfProduct: P4.5, which products have a root.
func TestRootOfProduct(t *testing.T) {
	s := rand.New(rand.NewSource(7))
	seen := map[[2]bool]int{}
	for range 200 {
		a, b := someNumber(s), someElement(s)
		if fp.Clean(a) == (api.Fp{}) || b == (api.Fp{}) {
			continue
		}
		one, other := hasRoot(t, a), hasRoot(t, b)
		seen[[2]bool{one, other}]++
		if hasRoot(t, fp.Mul(a, b)) != (one == other) {
			t.Fatalf("the root of the product of %x and %x", a, b)
		}
		if !hasRoot(t, fp.Mul(a, api.Fp{})) {
			t.Fatal("0 has no root")
		}
	}
	if len(seen) != 4 {
		t.Errorf("not all kinds of products were tried: %v", seen)
	}
}

// TestPut: P4.4.
func TestPut(t *testing.T) {
	for _, a := range numbers() {
		want := left(value(a)).FillBytes(make([]byte, size))
		if got := fp.Put(a); got != string(want) {
			t.Errorf("Put(%x) = %x", a, got)
		}
	}
	if got := fp.Put(whole(prime())); got != strings.Repeat("\x00", size) {
		t.Errorf("Put of p = %x", got)
	}
	if got := fp.Put(api.Fp{0x0102}); got != strings.Repeat("\x00", size-2)+"\x01\x02" {
		t.Errorf("Put = %x", got)
	}
}

func checkGet(t *testing.T, s string, want api.Fp, why api.Errno) {
	t.Helper()
	if got, e := fp.Get(s); got != want || e != why {
		t.Errorf("Get(%x) = %x, %d, not %x, %d", s, got, e, want, why)
	}
}

// TestGet: P4.4.
func TestGet(t *testing.T) {
	for _, a := range numbers() {
		s := string(value(a).FillBytes(make([]byte, size)))
		if value(a).Cmp(prime()) < 0 {
			checkGet(t, s, a, api.OK)
		} else {
			checkGet(t, s, api.Fp{}, api.ErrRange)
		}
	}
	less := plus(prime(), -1)
	checkGet(t, string(less.Bytes()), whole(less), api.OK)
	checkGet(t, string(prime().Bytes()), api.Fp{}, api.ErrRange)
	checkGet(t, strings.Repeat("\xff", size), api.Fp{}, api.ErrRange)
	checkGet(t, strings.Repeat("\x00", size), api.Fp{}, api.OK)
	checkGet(t, strings.Repeat("\x00", size-1)+"\x07", api.Fp{7}, api.OK)
}

// TestGetLength: P4.4, the length is looked at ahead of the number.
func TestGetLength(t *testing.T) {
	for n := range 140 {
		if n == size {
			continue
		}
		checkGet(t, strings.Repeat("\x00", n), api.Fp{}, api.ErrLen)
		checkGet(t, strings.Repeat("\x01", n), api.Fp{}, api.ErrLen)
		checkGet(t, strings.Repeat("\xff", n), api.Fp{}, api.ErrLen)
	}
	less := string(plus(prime(), -1).Bytes())
	checkGet(t, "", api.Fp{}, api.ErrLen)
	checkGet(t, less[1:], api.Fp{}, api.ErrLen)
	checkGet(t, "\x00"+less, api.Fp{}, api.ErrLen)
	checkGet(t, less+"\x00", api.Fp{}, api.ErrLen)
	checkGet(t, strings.Repeat("\xff", 1<<20), api.Fp{}, api.ErrLen)
}

// TestExamples: the chapter's.
func TestExamples(t *testing.T) {
	if got, why := fp.Root(fp.Small(4)); got != (api.Fp{2}) || why != api.OK {
		t.Errorf("Root(4) = %x, %d", got, why)
	}
	if got, why := fp.Root(fp.Small(-1)); got != (api.Fp{}) || why != api.ErrRoot {
		t.Errorf("Root(-1) = %x, %d", got, why)
	}
	if !fp.High(fp.Small(-1)) || fp.High(fp.Small(1)) {
		t.Error("what is high of -1 and 1")
	}
	check(t, "Mul", fp.Mul(fp.Inv(fp.Small(3)), fp.Small(3)), api.Fp{1})
}

// TestField: P4.5.
func TestField(t *testing.T) {
	s := rand.New(rand.NewSource(8))
	all := numbers()
	for range 3000 {
		a, b, c := all[s.Intn(len(all))], all[s.Intn(len(all))], someNumber(s)
		check(t, "a+b", fp.Add(a, b), fp.Add(b, a), a, b)
		check(t, "ab", fp.Mul(a, b), fp.Mul(b, a), a, b)
		check(t, "a+b+c", fp.Add(fp.Add(a, b), c), fp.Add(a, fp.Add(b, c)), a, b, c)
		check(t, "abc", fp.Mul(fp.Mul(a, b), c), fp.Mul(a, fp.Mul(b, c)), a, b, c)
		check(t, "a(b+c)", fp.Mul(a, fp.Add(b, c)), fp.Add(fp.Mul(a, b), fp.Mul(a, c)), a, b, c)
		check(t, "a-b+b", fp.Add(fp.Sub(a, b), b), fp.Clean(a), a, b)
	}
	for _, a := range all {
		check(t, "a+0", fp.Add(a, api.Fp{}), fp.Clean(a), a)
		check(t, "1a", fp.Mul(a, api.Fp{1}), fp.Clean(a), a)
		check(t, "0a", fp.Mul(a, api.Fp{}), api.Fp{}, a)
		check(t, "a-a", fp.Add(a, fp.Neg(a)), api.Fp{}, a)
		check(t, "a-a", fp.Sub(a, a), api.Fp{}, a)
		if fp.Clean(a) != (api.Fp{}) {
			check(t, "a/a", fp.Mul(a, fp.Inv(a)), api.Fp{1}, a)
			check(t, "1/(1/a)", fp.Inv(fp.Inv(a)), fp.Clean(a), a)
		}
	}
}

// TestBytes: P4.6.
func TestBytes(t *testing.T) {
	s := rand.New(rand.NewSource(9))
	for _, a := range numbers() {
		checkGet(t, fp.Put(a), fp.Clean(a), api.OK)
	}
	for range 2000 {
		text := make([]byte, size)
		s.Read(text)
		text[0] &= 0x1f
		a, why := fp.Get(string(text))
		if why == api.OK && fp.Put(a) != string(text) {
			t.Fatalf("%x is put again as %x", text, fp.Put(a))
		}
		if (why == api.OK) != (new(big.Int).SetBytes(text).Cmp(prime()) < 0) {
			t.Fatalf("Get(%x): %d", text, why)
		}
	}
}

// TestAgain: R1, calls keep nothing.
func TestAgain(t *testing.T) {
	a, b := fp.Small(-5), whole(half())
	first, _ := fp.Root(fp.Mul(a, b))
	sum := fp.Add(a, b)
	fp.Inv(b)
	fp.Get("between")
	if again, _ := fp.Root(fp.Mul(a, b)); again != first || fp.Add(a, b) != sum {
		t.Error("a second call has another answer")
	}
}
