package pair

import (
	"iter"

	"chirograph/api"
	"chirograph/one"
	"chirograph/two"
)

// beside hands on the points of two lists, which are of one length, pair by pair.
func beside(as []api.G1, bs []api.G2) iter.Seq2[api.G1, api.G2] {
	return func(yield func(api.G1, api.G2) bool) {
		for i, a := range as {
			if !yield(a, bs[i]) {
				return
			}
		}
	}
}

// fault is the error of the first pair that has one.
func fault(pairs iter.Seq2[api.G1, api.G2]) api.Errno {
	for a, b := range pairs {
		if !one.Right(a) || !two.Right(b) {
			return api.ErrCurve
		}
		if !one.Group(a) || !two.Group(b) {
			return api.ErrGroup
		}
	}
	return api.OK
}

// walks are those of all pairs but the ones with a point at infinity, whose
// pairing is 1.
func walks(pairs iter.Seq2[api.G1, api.G2]) []walk {
	var all []walk
	for a, b := range pairs {
		if !a.Inf && !b.Inf {
			all = append(all, begin(a, b))
		}
	}
	return all
}
