package pair_test

import (
	"math/big"

	"chirograph/api"
	"chirograph/full"
)

// prime, order and parameter are p, r and the curves' parameter without its sign,
// read from the chapters' own digits.
var (
	prime     = hex("1A0111EA397FE69A4B1BA7B6434BACD764774B84F38512BF6730D2A0F6B0F6241EABFFFEB153FFFFB9FEFFFFFFFFAAAB")
	order     = hex("73EDA753299D7D483339D80809A1D80553BDA402FFFE5BFEFFFFFFFF00000001")
	parameter = hex("D201000000010000")
)

func hex(digits string) *big.Int {
	n, _ := new(big.Int).SetString(digits, 16)
	return n
}

func plus(n *big.Int, d int64) *big.Int { return new(big.Int).Add(n, big.NewInt(d)) }

func twoTo(n uint) *big.Int { return new(big.Int).Lsh(big.NewInt(1), n) }

// limbs writes n, which must fit, into limbs, the lowest first.
func limbs(n *big.Int, out []uint64) {
	for i, x := range n.FillBytes(make([]byte, 8*len(out))) {
		place := len(out) - 1 - i/8
		out[place] = out[place]<<8 | uint64(x)
	}
}

func whole(n *big.Int) api.Fp {
	var a api.Fp
	limbs(n, a[:])
	return a
}

func often(n *big.Int) api.Fr {
	var k api.Fr
	limbs(n, k[:])
	return k
}

func value(a api.Fp) *big.Int {
	n := new(big.Int)
	for i := range a {
		n.Lsh(n, 64).Or(n, new(big.Int).SetUint64(a[len(a)-1-i]))
	}
	return n
}

// twelve are the numbers of an element: A's six, B's six.
type twelve [12]api.Fp

func numbers(a api.Fp12) twelve {
	return twelve{
		a.A.A.A, a.A.A.B, a.A.B.A, a.A.B.B, a.A.C.A, a.A.C.B,
		a.B.A.A, a.B.A.B, a.B.B.A, a.B.B.B, a.B.C.A, a.B.C.B,
	}
}

func (n twelve) put() api.Fp12 {
	half := func(n []api.Fp) api.Fp6 {
		return api.Fp6{A: api.Fp2{A: n[0], B: n[1]}, B: api.Fp2{A: n[2], B: n[3]}, C: api.Fp2{A: n[4], B: n[5]}}
	}
	return api.Fp12{A: half(n[:6]), B: half(n[6:])}
}

// wide is an element as a polynomial in w alone, in the library's numbers: as u
// is the sixth power of w, less 1, and u u is -1, the twelfth power is twice the
// sixth one, less 2.
type wide [12]*big.Int

// raised is which power of w stands with a part: A's have 0, 2 and 4, B's have
// 1, 3 and 5.
func raised(part int) int { return 2*(part%3) + part/3 }

func from(a api.Fp12) wide {
	var out wide
	n := numbers(a)
	for i := range 6 {
		plain, upright := value(n[2*i]), value(n[2*i+1])
		out[raised(i)] = new(big.Int).Sub(plain, upright)
		out[raised(i)+6] = upright
	}
	return out.rest()
}

func fromTwo(a api.Fp2) wide { return from(twelve{a.A, a.B}.put()) }

func fromOne(a api.Fp) wide { return from(twelve{a}.put()) }

func unit() wide { return fromOne(api.Fp{1}) }

func (x wide) rest() wide {
	for i := range x {
		x[i] = new(big.Int).Mod(x[i], prime)
	}
	return x
}

func (x wide) put() api.Fp12 {
	var n twelve
	for i := range 6 {
		upright := x[raised(i)+6]
		plain := new(big.Int).Add(x[raised(i)], upright)
		n[2*i], n[2*i+1] = whole(plain.Mod(plain, prime)), whole(upright)
	}
	return n.put()
}

// plus is x and k times y.
func (x wide) plus(k int64, y wide) wide {
	var out wide
	for i := range out {
		out[i] = new(big.Int).Mul(big.NewInt(k), y[i])
		out[i].Add(out[i], x[i])
	}
	return out.rest()
}

func (x wide) minus(y wide) wide { return x.plus(-1, y) }

func (x wide) times(y wide) wide {
	var long [23]*big.Int
	for i := range long {
		long[i] = new(big.Int)
	}
	one := new(big.Int)
	for i := range x {
		for j := range y {
			long[i+j].Add(long[i+j], one.Mul(x[i], y[j]))
		}
	}
	for i := 22; i >= 12; i-- {
		double := new(big.Int).Lsh(long[i], 1)
		long[i-6].Add(long[i-6], double)
		long[i-12].Sub(long[i-12], double)
	}
	return wide(long[:12]).rest()
}

// over leans on full for the inverse alone, and tries it.
func (x wide) over(y wide) wide {
	inverse := from(full.Inv(y.put()))
	if inverse.times(y).put() != unit().put() {
		panic("no inverse")
	}
	return x.times(inverse)
}

func (x wide) power(e *big.Int) wide {
	out := unit()
	for i := range e.BitLen() {
		out = out.times(out)
		if e.Bit(e.BitLen()-1-i) == 1 {
			out = out.times(x)
		}
	}
	return out
}

// turned has -w in the place of w: it is Conj.
func (x wide) turned() wide {
	for i := 1; i < 12; i += 2 {
		x[i] = new(big.Int).Neg(x[i])
	}
	return x.rest()
}

// spot is a point of the curve in w's numbers that the second one lies on, all of
// its parts being divided.
type spot struct{ x, y wide }

// slope is that of the line through two spots, or that touches the curve.
func slope(s, t spot) wide {
	if s.x.put() == t.x.put() {
		square := s.x.times(s.x)
		return square.plus(2, square).over(s.y.plus(1, s.y))
	}
	return t.y.minus(s.y).over(t.x.minus(s.x))
}

func (s spot) plus(t spot) spot {
	l := slope(s, t)
	x := l.times(l).minus(s.x).minus(t.x)
	return spot{x, l.times(s.x.minus(x)).minus(s.y)}
}

// line is that of two spots, at the spot p.
func line(s, t, p spot) wide {
	return p.y.minus(s.y).minus(slope(s, t).times(p.x.minus(s.x)))
}

// lastExponent is (p^12 - 1) / r.
func lastExponent() *big.Int {
	all := plus(new(big.Int).Exp(prime, big.NewInt(12), nil), -1)
	e, rest := new(big.Int).DivMod(all, order, new(big.Int))
	if rest.Sign() != 0 {
		panic("r doesn't divide p^12 - 1")
	}
	return e
}

// told is the pairing in the chapter's own words, of points of the groups.
func told(a api.G1, b api.G2) api.Fp12 {
	if a.Inf || b.Inf {
		return unit().put()
	}
	w := from(twelve{6: {1}}.put())
	ww := w.times(w)
	p := spot{fromOne(a.X), fromOne(a.Y)}
	q := spot{fromTwo(b.X).over(ww), fromTwo(b.Y).over(ww.times(w))}
	f, t := unit(), q
	for i := parameter.BitLen() - 2; i >= 0; i-- {
		f = f.times(f).times(line(t, t, p))
		t = t.plus(t)
		if parameter.Bit(i) == 1 {
			f = f.times(line(t, q, p))
			t = t.plus(q)
		}
	}
	return f.turned().power(lastExponent()).put()
}
