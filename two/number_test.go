package two_test

import (
	"math/big"

	"chirograph/api"
)

// prime and order are p and r, read from the chapters' own digits.
var (
	prime = hex("1A0111EA397FE69A4B1BA7B6434BACD764774B84F38512BF6730D2A0F6B0F6241EABFFFEB153FFFFB9FEFFFFFFFFAAAB")
	order = hex("73EDA753299D7D483339D80809A1D80553BDA402FFFE5BFEFFFFFFFF00000001")
)

func hex(digits string) *big.Int {
	n, _ := new(big.Int).SetString(digits, 16)
	return n
}

func plus(n *big.Int, d int64) *big.Int { return new(big.Int).Add(n, big.NewInt(d)) }

func times(n *big.Int, k int64) *big.Int { return new(big.Int).Mul(n, big.NewInt(k)) }

func twoTo(n uint) *big.Int { return new(big.Int).Lsh(big.NewInt(1), n) }

// limbs writes n, which must fit, into limbs, the lowest first.
func limbs(n *big.Int, out []uint64) {
	for i, x := range n.FillBytes(make([]byte, 8*len(out))) {
		place := len(out) - 1 - i/8
		out[place] = out[place]<<8 | uint64(x)
	}
}

func whole(n *big.Int) api.Fp {
	var a api.Fp
	limbs(n, a[:])
	return a
}

func often(n *big.Int) api.Fr {
	var k api.Fr
	limbs(n, k[:])
	return k
}

func value(limbs []uint64) *big.Int {
	n := new(big.Int)
	for i := range limbs {
		n.Lsh(n, 64)
		n.Or(n, new(big.Int).SetUint64(limbs[len(limbs)-1-i]))
	}
	return n
}

// wide is an element a + b u in the library's numbers, which the tests reckon with.
type wide struct{ a, b *big.Int }

func small(a, b int64) wide { return wide{big.NewInt(a), big.NewInt(b)}.rest() }

func (x wide) put() api.Fp2 { return api.Fp2{A: whole(x.a), B: whole(x.b)} }

func (x wide) rest() wide {
	return wide{new(big.Int).Mod(x.a, prime), new(big.Int).Mod(x.b, prime)}
}

func (x wide) is(y wide) bool { return x.a.Cmp(y.a) == 0 && x.b.Cmp(y.b) == 0 }

func (x wide) plus(y wide) wide {
	return wide{new(big.Int).Add(x.a, y.a), new(big.Int).Add(x.b, y.b)}.rest()
}

func (x wide) minus(y wide) wide {
	return wide{new(big.Int).Sub(x.a, y.a), new(big.Int).Sub(x.b, y.b)}.rest()
}

func (x wide) times(y wide) wide {
	ac, bd := new(big.Int).Mul(x.a, y.a), new(big.Int).Mul(x.b, y.b)
	ad, bc := new(big.Int).Mul(x.a, y.b), new(big.Int).Mul(x.b, y.a)
	return wide{ac.Sub(ac, bd), ad.Add(ad, bc)}.rest()
}

func (x wide) often(k int64) wide { return wide{times(x.a, k), times(x.b, k)}.rest() }

func (x wide) norm() *big.Int {
	n := new(big.Int).Mul(x.a, x.a)
	return n.Add(n, new(big.Int).Mul(x.b, x.b))
}

func (x wide) over(y wide) wide {
	inverse := new(big.Int).ModInverse(y.norm(), prime)
	x = x.times(wide{y.a, new(big.Int).Neg(y.b)})
	return wide{x.a.Mul(x.a, inverse), x.b.Mul(x.b, inverse)}.rest()
}

func (x wide) power(e *big.Int) wide {
	out := small(1, 0)
	for i := range e.BitLen() {
		out = out.times(out)
		if e.Bit(e.BitLen()-1-i) == 1 {
			out = out.times(x)
		}
	}
	return out
}

// root is a square root, if there is one, and if b is not 0: with c + d u, of c
// c - d d = a and 2 c d = b, c c is half of a and a root of the norm.
func (x wide) root() (wide, bool) {
	s := new(big.Int).ModSqrt(new(big.Int).Mod(x.norm(), prime), prime)
	if s == nil || x.b.Sign() == 0 {
		return wide{}, false
	}
	half := new(big.Int).ModInverse(big.NewInt(2), prime)
	for _, s := range []*big.Int{s, new(big.Int).Neg(s)} {
		cc := new(big.Int).Add(x.a, s)
		c := new(big.Int).ModSqrt(cc.Mod(cc.Mul(cc, half), prime), prime)
		if c != nil {
			d := new(big.Int).ModInverse(times(c, 2), prime)
			return wide{c, d.Mul(d, x.b)}.rest(), true
		}
	}
	return wide{}, false
}

// units is how many elements there are beside 0: nine times a number that 3 does
// not divide.
func units() *big.Int { return plus(new(big.Int).Mul(prime, prime), -1) }

func (x wide) isCube() bool {
	return x.power(new(big.Int).Div(units(), big.NewInt(3))).is(small(1, 0))
}

// cubeRoot is a number whose third power it is, which there must be: it is right
// up to a ninth root of 1, of which it goes through all.
func (x wide) cubeRoot() wide {
	others := new(big.Int).Div(units(), big.NewInt(9))
	ninth := small(1, 1)
	for ninth.isCube() {
		ninth = ninth.plus(small(1, 0))
	}
	ninth = ninth.power(others)
	near := x.power(new(big.Int).ModInverse(big.NewInt(3), others))
	for !near.times(near).times(near).is(x) {
		near = near.times(ninth)
	}
	return near
}
