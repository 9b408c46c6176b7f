package pair

import (
	"iter"
	"math/bits"

	"chirograph/api"
	"chirograph/full"
)

// size is the curves' parameter without its sign.
const size uint64 = 0xD201000000010000

// product is that of all pairings. The lines of all pairs go into one f: it is
// squared once for all of them, and so is the last power taken.
func product(pairs iter.Seq2[api.G1, api.G2]) api.Fp12 {
	all := walks(pairs)
	if len(all) == 0 {
		return full.One()
	}
	f := full.One()
	for bit := bits.Len64(size) - 2; bit >= 0; bit-- {
		f = full.Mul(f, f)
		for i := range all {
			f = full.Mul(f, all[i].double())
			if size>>bit&1 == 1 {
				f = full.Mul(f, all[i].advance())
			}
		}
	}
	return lastPower(full.Conj(f))
}

// lastPower is the power of (p^12 - 1) / r, in three steps: of p^6 - 1, p^2 + 1 and
// (p^4 - p^2 + 1) / r.
func lastPower(f api.Fp12) api.Fp12 {
	f = full.Mul(full.Conj(f), full.Inv(f))
	return slowPower(full.Mul(frobTwice(f), f))
}

// slowPower is the power of (p^4 - p^2 + 1) / r. With the parameter x that is
// (x - 1)^2 / 3 times x + p times x^2 + p^2 - 1, and 1. The power of p^6 + 1 of f is
// 1 here, so that Conj is its inverse: x being below 0, it comes in by that.
func slowPower(f api.Fp12) api.Fp12 {
	third := full.Pow(f, api.Fp{(size + 1) / 3})
	g := full.Pow(third, api.Fp{size + 1})
	g = full.Mul(full.Conj(full.Pow(g, api.Fp{size})), full.Frob(g))
	squared := full.Pow(full.Pow(g, api.Fp{size}), api.Fp{size})
	g = full.Mul(full.Mul(squared, frobTwice(g)), full.Conj(g))
	return full.Mul(g, f)
}

func frobTwice(a api.Fp12) api.Fp12 { return full.Frob(full.Frob(a)) }
