package point_test

import (
	"math/big"
	"slices"

	"chirograph/api"
)

const size = 48

// prime and order are p and r, read from the chapters' own digits.
var (
	prime = hex("1A0111EA397FE69A4B1BA7B6434BACD764774B84F38512BF6730D2A0F6B0F6241EABFFFEB153FFFFB9FEFFFFFFFFAAAB")
	order = hex("73EDA753299D7D483339D80809A1D80553BDA402FFFE5BFEFFFFFFFF00000001")
)

func hex(digits string) *big.Int {
	n, _ := new(big.Int).SetString(digits, 16)
	return n
}

func plus(n *big.Int, d int64) *big.Int { return new(big.Int).Add(n, big.NewInt(d)) }

func twoTo(n uint) *big.Int { return new(big.Int).Lsh(big.NewInt(1), n) }

// most is the number whose n bits are all 1.
func most(n uint) *big.Int { return plus(twoTo(n), -1) }

// limbs writes n, which must fit, into limbs, the lowest first.
func limbs(n *big.Int, out []uint64) {
	for i, x := range n.FillBytes(make([]byte, 8*len(out))) {
		place := len(out) - 1 - i/8
		out[place] = out[place]<<8 | uint64(x)
	}
}

func whole(n *big.Int) api.Fp {
	var a api.Fp
	limbs(n, a[:])
	return a
}

func often(n *big.Int) api.Fr {
	var k api.Fr
	limbs(n, k[:])
	return k
}

func value(a api.Fp) *big.Int {
	n := new(big.Int)
	for i := range a {
		n.Lsh(n, 64)
		n.Or(n, new(big.Int).SetUint64(a[len(a)-1-i]))
	}
	return n
}

// spot is a point's numbers in the order in which they are written in full: X and
// Y, or X's B and A and Y's B and A. At infinity it has none.
type spot []*big.Int

func (s spot) with(place int, n *big.Int) spot {
	other := slices.Clone(s)
	other[place] = n
	return other
}

// high is the chapters' own: the part of Y that is written first decides, if it is
// not 0, else the other one.
func (s spot) high() bool {
	for _, n := range s[len(s)/2:] {
		if n.Sign() != 0 {
			return n.Cmp(new(big.Int).Rsh(prime, 1)) > 0
		}
	}
	return false
}

// text is the bytes of numbers, with flags set in the first one.
func text(flags byte, numbers ...*big.Int) string {
	var out []byte
	for _, n := range numbers {
		out = append(out, n.FillBytes(make([]byte, size))...)
	}
	out[0] |= flags
	return string(out)
}

// inFull and inShort are a spot's bytes, of a curve with so many parts of a coordinate.
func (s spot) inFull(parts int) string {
	if len(s) == 0 {
		return "\x40" + string(make([]byte, 2*parts*size-1))
	}
	return text(0, s...)
}

func (s spot) inShort(parts int) string {
	if len(s) == 0 {
		return "\xC0" + string(make([]byte, parts*size-1))
	}
	if s.high() {
		return text(0xA0, s[:parts]...)
	}
	return text(0x80, s[:parts]...)
}
