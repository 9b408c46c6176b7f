package pair

import (
	"chirograph/api"
	"chirograph/full"
	"chirograph/two"
)

// walk is a pair's way along its lines: t goes on from q. Of the first curve's
// point stand what a line needs: -X w w and Y w w w.
type walk struct {
	left, up api.Fp12
	q, t     api.G2
}

func begin(a api.G1, b api.G2) walk {
	right := api.Fp12{A: api.Fp6{B: api.Fp2{A: a.X}}}
	up := api.Fp12{B: api.Fp6{B: api.Fp2{A: a.Y}}}
	return walk{left: negative(right), up: up, q: b, t: b}
}

// double and advance move t on, and answer the line on which they do it.
func (w *walk) double() api.Fp12 { return w.step(w.t) }

func (w *walk) advance() api.Fp12 { return w.step(w.q) }

// step adds a point to t, and answers the line through both, or, if they are the
// same, the one that touches the curve there: times two factors.
//
// One is how far the X of the place where the line meets the curve once more, which
// is the sum's negative, is from t's: so the slope needs no division. (It isn't 0,
// as t is q as often as a number far below r says.) The other one is w w w: so no
// point needs to be divided by it. Of both the power of p^4 - 1 is 1, and that
// divides the last power.
func (w *walk) step(by api.G2) api.Fp12 {
	sum, _ := two.Add(w.t, by)
	third, _ := two.Neg(sum)
	under, _ := two.Neg(w.t)
	x, down := plain(w.t.X), plain(under.Y)
	run := full.Add(plain(third.X), negative(x))
	rise := full.Add(plain(third.Y), down)
	w.t = sum
	return full.Add(full.Mul(run, full.Add(w.up, down)), full.Mul(rise, full.Add(w.left, x)))
}

// plain is an element of duo as one of full.
func plain(a api.Fp2) api.Fp12 { return api.Fp12{A: api.Fp6{A: a}} }

// negative is 0 less a. In full only Conj turns a sign, that of B: A goes through it
// in B's place.
func negative(a api.Fp12) api.Fp12 {
	return api.Fp12{A: full.Conj(api.Fp12{B: a.A}).B, B: full.Conj(a).B}
}
