package fr_test

import (
	"bytes"
	"math"
	"math/big"
	"math/rand"
	"slices"
	"strings"
	"testing"

	"chirograph/api"
	"chirograph/fr"
)

const top = 1<<64 - 1

// modulus is r, read from the chapter's own digits.
func modulus() *big.Int {
	r, _ := new(big.Int).SetString("73EDA753299D7D483339D80809A1D80553BDA402FFFE5BFEFFFFFFFF00000001", 16)
	return r
}

func value(a api.Fr) *big.Int {
	n := new(big.Int)
	for i := range len(a) {
		n.Lsh(n, 64)
		n.Or(n, new(big.Int).SetUint64(a[len(a)-1-i]))
	}
	return n
}

// whole is the number n as it is, which must fit.
func whole(n *big.Int) api.Fr {
	var a api.Fr
	text := n.FillBytes(make([]byte, 32))
	for i, x := range text {
		a[3-i/8] = a[3-i/8]<<8 | uint64(x)
	}
	return a
}

// rest is the element that n leaves.
func rest(n *big.Int) api.Fr { return whole(new(big.Int).Mod(n, modulus())) }

// near is numbers at and just beside n, as far as they fit.
func near(n *big.Int) []api.Fr {
	var all []api.Fr
	for d := int64(-2); d <= 2; d++ {
		x := new(big.Int).Add(n, big.NewInt(d))
		if x.Sign() >= 0 && x.BitLen() <= 256 {
			all = append(all, whole(x))
		}
	}
	return all
}

func power(bits uint) *big.Int { return new(big.Int).Lsh(big.NewInt(1), bits) }

// edges are numbers at and beside 0, the multiples of r, their halves, the
// limbs' ends and 2^256.
func edges() []api.Fr {
	r := modulus()
	all := near(big.NewInt(0))
	all = append(all, near(r)...)
	all = append(all, near(new(big.Int).Lsh(r, 1))...)
	all = append(all, near(new(big.Int).Rsh(r, 1))...)
	for _, bits := range []uint{64, 128, 192, 255, 256} {
		all = append(all, near(power(bits))...)
	}
	return all
}

// someNumber is one whose limbs are often at an edge; about half are not below r.
func someNumber(s *rand.Rand) api.Fr {
	limbs := []uint64{0, 0, 1, 2, 1 << 63, 1<<63 - 1, 1 << 32, top - 1, top}
	var a api.Fr
	for i := range a {
		if s.Intn(2) == 0 {
			a[i] = s.Uint64()
		} else {
			a[i] = limbs[s.Intn(len(limbs))]
		}
	}
	return a
}

func numbers() []api.Fr {
	s := rand.New(rand.NewSource(1))
	all := edges()
	for range 60 {
		all = append(all, someNumber(s))
	}
	return all
}

func eachPair(visit func(a, b api.Fr)) {
	all := numbers()
	for _, a := range all {
		for _, b := range all {
			visit(a, b)
		}
	}
}

func check(t *testing.T, name string, got, want api.Fr, args ...api.Fr) {
	t.Helper()
	if got != want {
		t.Fatalf("%s of %x = %x, not %x", name, args, got, want)
	}
	if value(got).Cmp(modulus()) >= 0 {
		t.Fatalf("%s of %x = %x: not below r", name, args, got)
	}
}

// TestRightClean: P3.1.
func TestRightClean(t *testing.T) {
	for _, a := range numbers() {
		if got, want := fr.Right(a), value(a).Cmp(modulus()) < 0; got != want {
			t.Errorf("Right(%x) = %v", a, got)
		}
		check(t, "Clean", fr.Clean(a), rest(value(a)), a)
		if !fr.Right(fr.Clean(a)) || fr.Clean(fr.Clean(a)) != fr.Clean(a) {
			t.Errorf("Clean(%x) is not clean", a)
		}
	}
	r := whole(modulus())
	less, more := r, r
	less[0]--
	more[0]++
	if !fr.Right(less) || fr.Right(r) || fr.Right(more) || fr.Right(api.Fr{top, top, top, top}) {
		t.Error("what is right at r")
	}
	check(t, "Clean", fr.Clean(less), less, less)
	check(t, "Clean", fr.Clean(r), api.Fr{}, r)
	check(t, "Clean", fr.Clean(more), api.Fr{1}, more)
}

// TestSmall: P3.1.
func TestSmall(t *testing.T) {
	s := rand.New(rand.NewSource(2))
	all := []int64{0, 1, 2, 3, 256, -1, -2, -3, math.MaxInt64, math.MaxInt64 - 1, math.MinInt64, math.MinInt64 + 1}
	for range 200 {
		all = append(all, int64(s.Uint64()))
	}
	for _, n := range all {
		if got, want := fr.Small(n), rest(big.NewInt(n)); got != want {
			t.Errorf("Small(%d) = %x, not %x", n, got, want)
		}
	}
	if got, want := fr.Small(-1), whole(new(big.Int).Sub(modulus(), big.NewInt(1))); got != want {
		t.Errorf("Small(-1) = %x", got)
	}
	if got, want := fr.Small(math.MinInt64), whole(new(big.Int).Sub(modulus(), power(63))); got != want {
		t.Errorf("Small of the smallest = %x", got)
	}
}

// TestReckon: P3.2, the sum, the difference, the negative and the product.
func TestReckon(t *testing.T) {
	eachPair(func(a, b api.Fr) {
		x, y := value(a), value(b)
		check(t, "Add", fr.Add(a, b), rest(new(big.Int).Add(x, y)), a, b)
		check(t, "Sub", fr.Sub(a, b), rest(new(big.Int).Sub(x, y)), a, b)
		check(t, "Mul", fr.Mul(a, b), rest(new(big.Int).Mul(x, y)), a, b)
	})
	for _, a := range numbers() {
		check(t, "Neg", fr.Neg(a), rest(new(big.Int).Neg(value(a))), a)
	}
}

// inverse is by the extended Euclid of the library: by another way than a power.
func inverse(a api.Fr) api.Fr {
	n := new(big.Int).ModInverse(new(big.Int).Mod(value(a), modulus()), modulus())
	if n == nil {
		return api.Fr{}
	}
	return whole(n)
}

// TestInv: P3.2.
func TestInv(t *testing.T) {
	for _, a := range numbers() {
		check(t, "Inv", fr.Inv(a), inverse(a), a)
	}
	r := whole(modulus())
	twice := whole(new(big.Int).Lsh(modulus(), 1))
	for _, zero := range []api.Fr{{}, r, twice} {
		check(t, "Inv", fr.Inv(zero), api.Fr{}, zero)
	}
}

// TestPow: P3.2.
func TestPow(t *testing.T) {
	for _, a := range edges() {
		for _, e := range edges() {
			n := new(big.Int).Mod(value(a), modulus())
			check(t, "Pow", fr.Pow(a, e), whole(n.Exp(n, value(e), modulus())), a, e)
		}
	}
	s := rand.New(rand.NewSource(3))
	for range 300 {
		a, e := someNumber(s), someNumber(s)
		check(t, "Pow", fr.Pow(a, e), whole(new(big.Int).Exp(value(a), value(e), modulus())), a, e)
	}
}

// TestPowEdges: P3.2, the exponent is not taken modulo r.
func TestPowEdges(t *testing.T) {
	r := whole(modulus())
	more := r
	more[0]++
	for _, a := range numbers() {
		check(t, "Pow", fr.Pow(a, api.Fr{}), api.Fr{1}, a)
		check(t, "Pow", fr.Pow(a, api.Fr{1}), fr.Clean(a), a)
		check(t, "Pow", fr.Pow(a, r), fr.Clean(a), a, r)
		check(t, "Pow", fr.Pow(a, more), fr.Mul(a, a), a, more)
	}
	check(t, "Pow", fr.Pow(api.Fr{2}, api.Fr{10}), api.Fr{1024})
	check(t, "Pow", fr.Pow(r, api.Fr{}), api.Fr{1})
	check(t, "Pow", fr.Pow(api.Fr{}, r), api.Fr{})
	check(t, "Pow", fr.Pow(r, api.Fr{5}), api.Fr{})
}

func checkBatch(t *testing.T, l []api.Fr) {
	t.Helper()
	got := fr.Batch(l)
	if len(got) != len(l) {
		t.Fatalf("Batch of %d: %d", len(l), len(got))
	}
	for i, a := range l {
		if got[i] != inverse(a) || got[i] != fr.Inv(a) {
			t.Fatalf("Batch of %d, at %d: %x of %x", len(l), i, got[i], a)
		}
	}
}

// TestBatch: P3.2.
func TestBatch(t *testing.T) {
	r := whole(modulus())
	checkBatch(t, nil)
	checkBatch(t, []api.Fr{})
	for _, a := range numbers() {
		checkBatch(t, []api.Fr{a})
		checkBatch(t, []api.Fr{a, {}})
		checkBatch(t, []api.Fr{{}, a})
		checkBatch(t, []api.Fr{r, a, {}, a, r})
	}
	checkBatch(t, []api.Fr{{}, {}, {}})
	checkBatch(t, []api.Fr{{2}, {3}, {5}})
	all := numbers()
	checkBatch(t, all)
	slices.Reverse(all)
	checkBatch(t, all)
	s := rand.New(rand.NewSource(4))
	for n := range 40 {
		l := make([]api.Fr, n)
		for i := range l {
			if s.Intn(4) > 0 {
				l[i] = someNumber(s)
			}
		}
		checkBatch(t, l)
	}
}

// TestBatchMany: it must be done in moments for as many as the layers above ask.
func TestBatchMany(t *testing.T) {
	s := rand.New(rand.NewSource(5))
	l := make([]api.Fr, 1<<14)
	for i := range l {
		l[i] = someNumber(s)
	}
	l[100], l[len(l)-1] = api.Fr{}, api.Fr{}
	got := fr.Batch(l)
	for i, a := range l {
		want := api.Fr{1}
		if fr.Clean(a) == (api.Fr{}) {
			want = api.Fr{}
		}
		if fr.Mul(a, got[i]) != want || want == (api.Fr{}) && got[i] != want {
			t.Fatalf("at %d: %x of %x", i, got[i], a)
		}
	}
}

// TestPut: P3.3.
func TestPut(t *testing.T) {
	for _, a := range numbers() {
		want := value(rest(value(a))).FillBytes(make([]byte, 32))
		if got := fr.Put(a); got != string(want) {
			t.Errorf("Put(%x) = %x", a, got)
		}
	}
	if got := fr.Put(whole(modulus())); got != strings.Repeat("\x00", 32) {
		t.Errorf("Put of r = %x", got)
	}
	if got := fr.Put(api.Fr{0x0102}); got != strings.Repeat("\x00", 30)+"\x01\x02" {
		t.Errorf("Put = %x", got)
	}
}

func checkGet(t *testing.T, s string, want api.Fr, why api.Errno) {
	t.Helper()
	if got, e := fr.Get(s); got != want || e != why {
		t.Errorf("Get(%x) = %x, %d, not %x, %d", s, got, e, want, why)
	}
}

// TestGet: P3.3.
func TestGet(t *testing.T) {
	for _, a := range numbers() {
		s := string(value(a).FillBytes(make([]byte, 32)))
		if value(a).Cmp(modulus()) < 0 {
			checkGet(t, s, a, api.OK)
		} else {
			checkGet(t, s, api.Fr{}, api.ErrRange)
		}
	}
	one := new(big.Int).Sub(modulus(), big.NewInt(1))
	checkGet(t, string(one.Bytes()), fr.Small(-1), api.OK)
	checkGet(t, string(modulus().Bytes()), api.Fr{}, api.ErrRange)
	checkGet(t, strings.Repeat("\xff", 32), api.Fr{}, api.ErrRange)
	checkGet(t, strings.Repeat("\x00", 31)+"\x07", api.Fr{7}, api.OK)
}

// TestGetLength: P3.3, the length is looked at ahead of the number.
func TestGetLength(t *testing.T) {
	for n := range 140 {
		if n == 32 {
			continue
		}
		checkGet(t, strings.Repeat("\x00", n), api.Fr{}, api.ErrLen)
		checkGet(t, strings.Repeat("\x01", n), api.Fr{}, api.ErrLen)
		checkGet(t, strings.Repeat("\xff", n), api.Fr{}, api.ErrLen)
	}
	checkGet(t, "", api.Fr{}, api.ErrLen)
	checkGet(t, strings.Repeat("\xff", 1<<20), api.Fr{}, api.ErrLen)
}

func checkHash(t *testing.T, s []byte) {
	t.Helper()
	if got, want := fr.Hash(string(s)), rest(new(big.Int).SetBytes(s)); got != want {
		t.Fatalf("Hash of %d bytes %.80x = %x, not %x", len(s), s, got, want)
	}
}

// TestHash: P3.3.
func TestHash(t *testing.T) {
	s := rand.New(rand.NewSource(6))
	for n := range 300 {
		text := make([]byte, n)
		checkHash(t, text)
		s.Read(text)
		checkHash(t, text)
		checkHash(t, bytes.Repeat([]byte{0xff}, n))
		checkHash(t, append([]byte{1}, make([]byte, n)...))
		checkHash(t, append(make([]byte, n), 1))
		checkHash(t, append(modulus().Bytes(), text...))
	}
	for _, n := range []int{1 << 12, 1<<16 - 1, 1 << 16, 1<<16 + 1} {
		text := make([]byte, n)
		s.Read(text)
		checkHash(t, text)
		checkHash(t, bytes.Repeat([]byte{0xff}, n))
	}
	for _, a := range numbers() {
		checkHash(t, value(a).FillBytes(make([]byte, 32)))
	}
	if got := fr.Hash(""); got != (api.Fr{}) {
		t.Errorf("Hash of none = %x", got)
	}
}

// TestExamples: the chapter's.
func TestExamples(t *testing.T) {
	minus := new(big.Int).Sub(modulus(), big.NewInt(1))
	check(t, "Small", fr.Small(-1), whole(minus))
	check(t, "Add", fr.Add(fr.Small(-1), fr.Small(3)), api.Fr{2})
	check(t, "Mul", fr.Mul(fr.Inv(fr.Small(2)), fr.Small(2)), api.Fr{1})
	check(t, "Inv", fr.Inv(fr.Small(0)), api.Fr{})
	check(t, "Hash", fr.Hash("\x01\x00"), api.Fr{256})
	checkGet(t, strings.Repeat("\xff", 32), api.Fr{}, api.ErrRange)
}

// TestField: P3.4.
func TestField(t *testing.T) {
	s := rand.New(rand.NewSource(7))
	all := numbers()
	for range 3000 {
		a, b, c := all[s.Intn(len(all))], all[s.Intn(len(all))], someNumber(s)
		check(t, "a+b", fr.Add(a, b), fr.Add(b, a), a, b)
		check(t, "ab", fr.Mul(a, b), fr.Mul(b, a), a, b)
		check(t, "a+b+c", fr.Add(fr.Add(a, b), c), fr.Add(a, fr.Add(b, c)), a, b, c)
		check(t, "abc", fr.Mul(fr.Mul(a, b), c), fr.Mul(a, fr.Mul(b, c)), a, b, c)
		check(t, "a(b+c)", fr.Mul(a, fr.Add(b, c)), fr.Add(fr.Mul(a, b), fr.Mul(a, c)), a, b, c)
		check(t, "a-b+b", fr.Add(fr.Sub(a, b), b), fr.Clean(a), a, b)
	}
	for _, a := range all {
		check(t, "a+0", fr.Add(a, api.Fr{}), fr.Clean(a), a)
		check(t, "1a", fr.Mul(a, api.Fr{1}), fr.Clean(a), a)
		check(t, "0a", fr.Mul(a, api.Fr{}), api.Fr{}, a)
		check(t, "a-a", fr.Add(a, fr.Neg(a)), api.Fr{}, a)
		check(t, "a-a", fr.Sub(a, a), api.Fr{}, a)
		if fr.Clean(a) != (api.Fr{}) {
			check(t, "a/a", fr.Mul(a, fr.Inv(a)), api.Fr{1}, a)
			check(t, "1/(1/a)", fr.Inv(fr.Inv(a)), fr.Clean(a), a)
		}
	}
}

// TestExponents: P3.4, powers add up in the exponent; to the power of r each is itself.
func TestExponents(t *testing.T) {
	s := rand.New(rand.NewSource(8))
	for _, a := range numbers() {
		d, e := someNumber(s), someNumber(s)
		d[3], e[3] = d[3]>>1, e[3]>>1
		both := whole(new(big.Int).Add(value(d), value(e)))
		check(t, "Pow", fr.Mul(fr.Pow(a, d), fr.Pow(a, e)), fr.Pow(a, both), a, d, e)
		check(t, "Pow", fr.Pow(a, whole(modulus())), fr.Clean(a), a)
	}
}

// TestBytes: P3.5.
func TestBytes(t *testing.T) {
	s := rand.New(rand.NewSource(9))
	for _, a := range numbers() {
		text := fr.Put(a)
		checkGet(t, text, fr.Clean(a), api.OK)
		check(t, "Hash", fr.Hash(text), fr.Clean(a), a)
	}
	for range 2000 {
		text := make([]byte, 32)
		s.Read(text)
		a, why := fr.Get(string(text))
		if why == api.OK && fr.Put(a) != string(text) {
			t.Fatalf("%x is put again as %x", text, fr.Put(a))
		}
		if why != api.OK && new(big.Int).SetBytes(text).Cmp(modulus()) < 0 {
			t.Fatalf("Get(%x): %d", text, why)
		}
	}
}

// TestUnchanged: R4, and that an answer is new memory.
func TestUnchanged(t *testing.T) {
	mark := api.Fr{0xabad1dea, top, top, top}
	for n := range 20 {
		was := append(slices.Clone(numbers()[:n]), mark, mark)
		now := slices.Clone(was)
		got := fr.Batch(now[:n])
		room := got[:cap(got)]
		for i := range room {
			room[i] = api.Fr{0xdead}
		}
		if !slices.Equal(now, was) {
			t.Fatalf("%x was changed to %x", was, now)
		}
	}
}

// TestAgain: R1, calls keep nothing.
func TestAgain(t *testing.T) {
	l := numbers()
	first := fr.Batch(l)
	fr.Batch(l[5:9])
	fr.Hash("between")
	if again := fr.Batch(l); !slices.Equal(first, again) {
		t.Error("a second Batch has another answer")
	}
}
