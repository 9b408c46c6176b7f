package nat_test

import (
	"bytes"
	"math/big"
	"math/rand"
	"slices"
	"strings"
	"testing"

	"chirograph/api"
	"chirograph/nat"
)

const top = 1<<64 - 1

// whole is the number of a row that is not cut.
func whole(a []uint64) *big.Int {
	n := new(big.Int)
	for i := range len(a) {
		n.Lsh(n, 64)
		n.Or(n, new(big.Int).SetUint64(a[len(a)-1-i]))
	}
	return n
}

// value is the number of a row as the chapter takes it.
func value(a []uint64) *big.Int { return whole(kept(a)) }

func kept(a []uint64) []uint64 { return a[:min(len(a), api.MaxLimbs)] }

func width(a []uint64) int { return len(kept(a)) }

func power(limbs int) *big.Int { return new(big.Int).Lsh(big.NewInt(1), uint(64*limbs)) }

// row is the row of that width whose number is n, modulo the width's power of 2.
func row(n *big.Int, width int) []uint64 {
	n = new(big.Int).Mod(n, power(width))
	mask := new(big.Int).SetUint64(top)
	a := make([]uint64, width)
	for i := range width {
		a[i] = new(big.Int).And(n, mask).Uint64()
		n.Rsh(n, 64)
	}
	return a
}

// someRow is one whose limbs are often at an edge, where carries and guessed
// digits go wrong.
func someRow(r *rand.Rand, limbs int) []uint64 {
	edges := []uint64{0, 0, 1, 2, 1 << 63, 1<<63 - 1, 1<<63 + 1, 1 << 32, top - 1, top, top}
	a := make([]uint64, limbs)
	for i := range limbs {
		if r.Intn(3) == 0 {
			a[i] = r.Uint64()
		} else {
			a[i] = edges[r.Intn(len(edges))]
		}
	}
	return a
}

// pairs are rows of every width up to beyond the cut, and random ones.
func pairs(visit func(a, b []uint64)) {
	r := rand.New(rand.NewSource(1))
	for x := range api.MaxLimbs + 3 {
		for y := range api.MaxLimbs + 3 {
			visit(someRow(r, x), someRow(r, y))
		}
	}
	for range 20000 {
		visit(someRow(r, r.Intn(5)), someRow(r, r.Intn(5)))
	}
	visit(nil, nil)
	visit(nil, []uint64{5})
	visit([]uint64{5}, nil)
	visit([]uint64{}, []uint64{0, 0})
	visit([]uint64{3}, []uint64{3, 0, 0})
}

func ones(limbs int) []uint64 { return slices.Repeat([]uint64{top}, limbs) }

// beyond is a row whose number is 0, by the cut alone.
func beyond() []uint64 { return append(make([]uint64, api.MaxLimbs), 7, 9) }

// TestCmp: P1.1.
func TestCmp(t *testing.T) {
	pairs(func(a, b []uint64) {
		if got, want := nat.Cmp(a, b), value(a).Cmp(value(b)); got != want {
			t.Fatalf("Cmp(%x, %x) = %d, not %d", a, b, got, want)
		}
		if got := nat.Cmp(a, append(slices.Clone(a), 0)); got != 0 {
			t.Fatalf("Cmp of %x and itself, wider: %d", a, got)
		}
	})
	for _, c := range []struct {
		a, b []uint64
		want int
	}{
		{nil, nil, 0},
		{nil, []uint64{}, 0},
		{nil, []uint64{0, 0}, 0},
		{nil, []uint64{0, 1}, -1},
		{[]uint64{1}, nil, 1},
		{[]uint64{top, 0}, []uint64{0, 1}, -1},
		{[]uint64{0, 1}, []uint64{top}, 1},
		{[]uint64{1, 2}, []uint64{2, 2}, -1},
		{[]uint64{top}, []uint64{top, 0, 0}, 0},
		{beyond(), nil, 0},
		{beyond(), []uint64{1}, -1},
	} {
		if got := nat.Cmp(c.a, c.b); got != c.want {
			t.Errorf("Cmp(%x, %x) = %d, not %d", c.a, c.b, got, c.want)
		}
	}
}

// TestAdd: P1.2.
func TestAdd(t *testing.T) {
	pairs(func(a, b []uint64) {
		got, carry := nat.Add(a, b)
		w := max(width(a), width(b))
		sum := new(big.Int).Add(value(a), value(b))
		if !slices.Equal(got, row(sum, w)) || carry != new(big.Int).Rsh(sum, uint(64*w)).Uint64() {
			t.Fatalf("Add(%x, %x) = %x, %d", a, b, got, carry)
		}
	})
	checkRow := func(a, b, want []uint64, beyond uint64) {
		t.Helper()
		if got, carry := nat.Add(a, b); !slices.Equal(got, want) || carry != beyond {
			t.Errorf("Add(%x, %x) = %x, %d", a, b, got, carry)
		}
	}
	checkRow([]uint64{top}, []uint64{1}, []uint64{0}, 1)
	checkRow([]uint64{top, 0}, []uint64{1}, []uint64{0, 1}, 0)
	checkRow([]uint64{1}, []uint64{top, top}, []uint64{0, 0}, 1)
	checkRow(ones(16), []uint64{1}, make([]uint64, 16), 1)
	checkRow(append(ones(16), 5), []uint64{1}, make([]uint64, 16), 1)
	checkRow(beyond(), nil, make([]uint64, 16), 0)
	checkRow(nil, nil, nil, 0)
}

// TestSub: P1.2.
func TestSub(t *testing.T) {
	pairs(func(a, b []uint64) {
		got, borrow := nat.Sub(a, b)
		diff := new(big.Int).Sub(value(a), value(b))
		want := uint64(0)
		if diff.Sign() < 0 {
			want = 1
		}
		if !slices.Equal(got, row(diff, max(width(a), width(b)))) || borrow != want {
			t.Fatalf("Sub(%x, %x) = %x, %d", a, b, got, borrow)
		}
	})
	checkRow := func(a, b, want []uint64, below uint64) {
		t.Helper()
		if got, borrow := nat.Sub(a, b); !slices.Equal(got, want) || borrow != below {
			t.Errorf("Sub(%x, %x) = %x, %d", a, b, got, borrow)
		}
	}
	checkRow([]uint64{0}, []uint64{1}, []uint64{top}, 1)
	checkRow([]uint64{0, 1}, []uint64{1}, []uint64{top, 0}, 0)
	checkRow([]uint64{0}, []uint64{1, 0}, []uint64{top, top}, 1)
	checkRow(nil, []uint64{1}, []uint64{top}, 1)
	checkRow(nil, append(make([]uint64, 15), 1, 8), append(make([]uint64, 15), top), 1)
	checkRow([]uint64{3}, beyond(), append([]uint64{3}, make([]uint64, 15)...), 0)
	checkRow(nil, nil, nil, 0)
}

// TestMul: P1.2.
func TestMul(t *testing.T) {
	pairs(func(a, b []uint64) {
		product := new(big.Int).Mul(value(a), value(b))
		if got := nat.Mul(a, b); !slices.Equal(got, row(product, width(a)+width(b))) {
			t.Fatalf("Mul(%x, %x) = %x", a, b, got)
		}
	})
	checkRow := func(a, b, want []uint64) {
		t.Helper()
		if got := nat.Mul(a, b); !slices.Equal(got, want) {
			t.Errorf("Mul(%x, %x) = %x", a, b, got)
		}
	}
	checkRow([]uint64{top}, []uint64{top}, []uint64{1, top - 1})
	checkRow([]uint64{6}, []uint64{7}, []uint64{42, 0})
	checkRow([]uint64{7, 8}, nil, []uint64{0, 0})
	checkRow(nil, []uint64{7, 8}, []uint64{0, 0})
	checkRow(nil, nil, nil)
	full := append(append([]uint64{1}, make([]uint64, 15)...), append([]uint64{top - 1}, ones(15)...)...)
	checkRow(ones(16), ones(17), full)
	checkRow(beyond(), []uint64{3}, make([]uint64, 17))
}

// TestBits: P1.3.
func TestBits(t *testing.T) {
	pairs(func(a, _ []uint64) {
		if got, want := nat.Bits(a), value(a).BitLen(); got != want {
			t.Fatalf("Bits(%x) = %d, not %d", a, got, want)
		}
	})
	for _, c := range []struct {
		a    []uint64
		want int
	}{
		{nil, 0},
		{[]uint64{}, 0},
		{[]uint64{0, 0}, 0},
		{[]uint64{1}, 1},
		{[]uint64{top}, 64},
		{[]uint64{0, 1}, 65},
		{[]uint64{0, 4, 0}, 67},
		{ones(16), 1024},
		{ones(17), 1024},
		{beyond(), 0},
	} {
		if got := nat.Bits(c.a); got != c.want {
			t.Errorf("Bits(%x) = %d, not %d", c.a, got, c.want)
		}
	}
	for i := range 64 * api.MaxLimbs {
		if got := nat.Bits(row(new(big.Int).Lsh(big.NewInt(1), uint(i)), api.MaxLimbs)); got != i+1 {
			t.Errorf("Bits of 2^%d: %d", i, got)
		}
	}
}

func checkRem(t *testing.T, a, m []uint64) {
	t.Helper()
	got, why := nat.Rem(a, m)
	divisor := value(m)
	if divisor.Sign() == 0 {
		if why != api.ErrArg || len(got) != 0 {
			t.Fatalf("Rem(%x, %x) = %x, %d", a, m, got, why)
		}
		return
	}
	want := row(new(big.Int).Mod(value(a), divisor), width(m))
	if why != api.OK || !slices.Equal(got, want) {
		t.Fatalf("Rem(%x, %x) = %x, %d, not %x", a, m, got, why, want)
	}
}

// TestRem: P1.3.
func TestRem(t *testing.T) {
	pairs(func(a, b []uint64) {
		checkRem(t, a, b)
		checkRem(t, b, a)
	})
	r := rand.New(rand.NewSource(2))
	for range 50000 {
		checkRem(t, someRow(r, r.Intn(9)), someRow(r, 1+r.Intn(4)))
	}
}

func TestRemEdges(t *testing.T) {
	// A digit that is guessed from the highest limbs alone is too high by 2.
	checkRem(t, []uint64{1<<63 - 1, 1<<63 - 1, 1<<63 - 1}, []uint64{top - 1, 1<<63 + 1})
	// The highest limbs are the same: no digit of 64 bits can be guessed from them.
	checkRem(t, []uint64{1, 2, 1 << 63}, []uint64{top - 1, 1 << 63})
	for _, c := range []struct {
		a, m, want []uint64
		why        api.Errno
	}{
		{[]uint64{7, 0, 1}, []uint64{10}, []uint64{3}, api.OK},
		{[]uint64{7}, []uint64{0}, nil, api.ErrArg},
		{[]uint64{7}, []uint64{0, 0, 0}, nil, api.ErrArg},
		{[]uint64{7}, nil, nil, api.ErrArg},
		{nil, nil, nil, api.ErrArg},
		{[]uint64{7}, beyond(), nil, api.ErrArg},
		{nil, []uint64{3}, []uint64{0}, api.OK},
		{[]uint64{7}, []uint64{1}, []uint64{0}, api.OK},
		{[]uint64{7}, []uint64{10, 0, 0}, []uint64{7, 0, 0}, api.OK},
		{[]uint64{7, 0, 1}, []uint64{10, 0}, []uint64{3, 0}, api.OK},
		{[]uint64{7}, []uint64{0, 1}, []uint64{7, 0}, api.OK},
		{[]uint64{5, 5}, []uint64{5, 5}, []uint64{0, 0}, api.OK},
		{append(make([]uint64, 16), 1), []uint64{10}, []uint64{0}, api.OK},
		{[]uint64{12}, append([]uint64{5}, make([]uint64, 16)...), append([]uint64{2}, make([]uint64, 15)...), api.OK},
	} {
		got, why := nat.Rem(c.a, c.m)
		if why != c.why || !slices.Equal(got, c.want) {
			t.Errorf("Rem(%x, %x) = %x, %d, not %x, %d", c.a, c.m, got, why, c.want, c.why)
		}
	}
}

// TestPut: P1.4.
func TestPut(t *testing.T) {
	pairs(func(a, _ []uint64) {
		want := value(a).FillBytes(make([]byte, 8*width(a)))
		if got := nat.Put(a); got != string(want) {
			t.Fatalf("Put(%x) = %x", a, got)
		}
	})
	for _, c := range []struct {
		a    []uint64
		want string
	}{
		{nil, ""},
		{[]uint64{}, ""},
		{[]uint64{0}, "\x00\x00\x00\x00\x00\x00\x00\x00"},
		{[]uint64{0x0102030405060708}, "\x01\x02\x03\x04\x05\x06\x07\x08"},
		{[]uint64{2, 1}, "\x00\x00\x00\x00\x00\x00\x00\x01\x00\x00\x00\x00\x00\x00\x00\x02"},
		{append(ones(16), 1), strings.Repeat("\xff", 128)},
	} {
		if got := nat.Put(c.a); got != c.want {
			t.Errorf("Put(%x) = %x, not %x", c.a, got, c.want)
		}
	}
}

// TestGet: P1.4.
func TestGet(t *testing.T) {
	r := rand.New(rand.NewSource(3))
	for n := range 8*api.MaxLimbs + 20 {
		s := make([]byte, n)
		r.Read(s)
		got, why := nat.Get(string(s))
		if n%8 != 0 || n > 8*api.MaxLimbs {
			if why != api.ErrLen || len(got) != 0 {
				t.Errorf("Get of %d bytes: %x, %d", n, got, why)
			}
			continue
		}
		if want := row(new(big.Int).SetBytes(s), n/8); why != api.OK || !slices.Equal(got, want) {
			t.Errorf("Get(%x) = %x, %d", s, got, why)
		}
	}
	if got, why := nat.Get("\x01\x02\x03\x04\x05\x06\x07\x08"); why != api.OK || !slices.Equal(got, []uint64{0x0102030405060708}) {
		t.Errorf("%x, %d", got, why)
	}
	if got, why := nat.Get(strings.Repeat("\x00", 1<<20)); why != api.ErrLen || len(got) != 0 {
		t.Errorf("%d limbs, %d", len(got), why)
	}
}

// TestSums: P1.5, what was added can be subtracted again.
func TestSums(t *testing.T) {
	pairs(func(a, b []uint64) {
		sum, carry := nat.Add(a, b)
		back, borrow := nat.Sub(sum, b)
		if nat.Cmp(back, a) != 0 || borrow != carry {
			t.Fatalf("%x and %x, less %x: %x", a, b, b, back)
		}
		diff, borrow := nat.Sub(a, b)
		again, carry := nat.Add(diff, b)
		if nat.Cmp(again, a) != 0 || borrow != carry {
			t.Fatalf("%x less %x, and %x: %x", a, b, b, again)
		}
	})
}

// TestProducts: P1.5, products go in any order and over sums.
func TestProducts(t *testing.T) {
	r := rand.New(rand.NewSource(4))
	for range 5000 {
		a, b, c := someRow(r, r.Intn(6)), someRow(r, r.Intn(6)), someRow(r, r.Intn(6))
		if nat.Cmp(nat.Mul(a, b), nat.Mul(b, a)) != 0 {
			t.Fatalf("%x times %x goes in one order only", a, b)
		}
		if nat.Cmp(nat.Mul(nat.Mul(a, b), c), nat.Mul(a, nat.Mul(b, c))) != 0 {
			t.Fatalf("%x times %x times %x goes in one grouping only", a, b, c)
		}
		sum, _ := nat.Add(append(slices.Clone(b), 0), append(slices.Clone(c), 0))
		parts, carry := nat.Add(nat.Mul(a, append(b, 0)), nat.Mul(a, append(c, 0)))
		if carry != 0 || nat.Cmp(nat.Mul(a, sum), parts) != 0 {
			t.Fatalf("%x times the sum of %x and %x", a, b, c)
		}
	}
}

// TestRests: P1.5, what is left is below m, and the same of what is more by m.
func TestRests(t *testing.T) {
	pairs(func(a, m []uint64) {
		rest, why := nat.Rem(a, m)
		if why != api.OK {
			return
		}
		if nat.Cmp(rest, m) != -1 {
			t.Fatalf("Rem(%x, %x) = %x", a, m, rest)
		}
		more, carry := nat.Add(a, m)
		if carry == 1 && len(more) == api.MaxLimbs {
			return
		}
		if again, why := nat.Rem(append(more, carry), m); why != api.OK || !slices.Equal(again, rest) {
			t.Fatalf("Rem(%x, %x) = %x, but %x of what is more by it", a, m, rest, again)
		}
	})
}

// TestBytes: P1.6.
func TestBytes(t *testing.T) {
	pairs(func(a, b []uint64) {
		got, why := nat.Get(nat.Put(a))
		if why != api.OK || !slices.Equal(got, kept(a)) {
			t.Fatalf("%x is got again as %x, %d", a, got, why)
		}
		if width(a) == width(b) && strings.Compare(nat.Put(a), nat.Put(b)) != nat.Cmp(a, b) {
			t.Fatalf("bytes of %x and %x are not in their order", a, b)
		}
	})
	r := rand.New(rand.NewSource(5))
	for n := range api.MaxLimbs + 1 {
		s := make([]byte, 8*n)
		r.Read(s)
		a, why := nat.Get(string(s))
		if why != api.OK || !bytes.Equal([]byte(nat.Put(a)), s) {
			t.Errorf("%x is put again as %x, %d", s, nat.Put(a), why)
		}
	}
}

// guarded is a row with room behind it, so that a write beyond its end is seen too.
func guarded(a []uint64) []uint64 {
	return append(slices.Clone(a), 0xabad1dea, 0xabad1dea)[:len(a)]
}

func callAll(a, b []uint64) [][]uint64 {
	nat.Cmp(a, b)
	sum, _ := nat.Add(a, b)
	diff, _ := nat.Sub(a, b)
	rest, _ := nat.Rem(a, b)
	nat.Bits(a)
	nat.Put(a)
	return [][]uint64{sum, diff, rest, nat.Mul(a, b)}
}

// TestUnchanged: R4, and that an answer is new memory.
func TestUnchanged(t *testing.T) {
	pairs(func(a, b []uint64) {
		ga, gb := guarded(a), guarded(b)
		for _, answer := range callAll(ga, gb) {
			for i := range answer[:cap(answer)] {
				answer[:cap(answer)][i] = 0xdead
			}
		}
		fa, fb := ga[:len(a)+2], gb[:len(b)+2]
		if !slices.Equal(fa, append(slices.Clone(a), 0xabad1dea, 0xabad1dea)) || !slices.Equal(fb, append(slices.Clone(b), 0xabad1dea, 0xabad1dea)) {
			t.Fatalf("%x and %x were changed to %x and %x", a, b, fa, fb)
		}
	})
}

// TestSameRow: a row may stand for both arguments.
func TestSameRow(t *testing.T) {
	pairs(func(a, _ []uint64) {
		b := slices.Clone(a)
		one, two := callAll(a, a), callAll(a, b)
		if nat.Cmp(a, a) != 0 || !slices.EqualFunc(one, two, slices.Equal) {
			t.Fatalf("%x with itself: %x, with a copy: %x", a, one, two)
		}
	})
}

// TestAgain: R1, calls keep nothing.
func TestAgain(t *testing.T) {
	r := rand.New(rand.NewSource(6))
	a, b := someRow(r, 7), someRow(r, 4)
	first := callAll(a, b)
	callAll(b, a)
	if again := callAll(a, b); !slices.EqualFunc(first, again, slices.Equal) {
		t.Errorf("%x, then %x", first, again)
	}
}
