package full

import (
	"iter"

	"chirograph/api"
	"chirograph/sext"
)

// bitsDown hands on the bits of a number, from its highest 1 down.
func bitsDown(e api.Fp) iter.Seq[uint64] {
	return func(yield func(uint64) bool) {
		begun := false
		for i := 64*len(e) - 1; i >= 0; i-- {
			bit := e[i/64] >> (i % 64) & 1
			begun = begun || bit == 1
			if begun && !yield(bit) {
				return
			}
		}
	}
}

// bend turns the sign of u in all parts: in duo that is the power of p, as p
// leaves 3, divided by 4.
func bend(x api.Fp6) api.Fp6 {
	plain := api.Fp6{A: api.Fp2{A: x.A.A}, B: api.Fp2{A: x.B.A}, C: api.Fp2{A: x.C.A}}
	upright := api.Fp6{A: api.Fp2{B: x.A.B}, B: api.Fp2{B: x.B.B}, C: api.Fp2{B: x.C.B}}
	return sext.Sub(plain, upright)
}

// turn is what makes of w, times it, its power of p: w to the power of p - 1,
// which is u + 1 to the power of (p - 1) / 6.
func turn() api.Fp6 {
	return api.Fp6{A: api.Fp2{
		A: api.Fp{
			0x8D0775ED92235FB8, 0xF67EA53D63E7813D, 0x7B2443D784BAB9C4,
			0x0FD603FD3CBD5F4F, 0xC231BEB4202C0D1F, 0x1904D3BF02BB0667,
		},
		B: api.Fp{
			0x2CF78A126DDC4AF3, 0x282D5AC14D6C7EC2, 0xEC0C8EC971F63C5F,
			0x54A14787B6C7B36F, 0x88E9E902231F9FB8, 0x00FC3E2B36C4E032,
		},
	}}
}

// turnTwice is turn times itself: u times a number whose third power is 1.
func turnTwice() api.Fp6 {
	return api.Fp6{A: api.Fp2{B: api.Fp{
		0x8BFD00000000AAAC, 0x409427EB4F49FFFD, 0x897D29650FB85F9B,
		0xAA0D857D89759AD4, 0xEC02408663D4DE85, 0x1A0111EA397FE699,
	}}}
}

// turnFourTimes is turnTwice times itself.
func turnFourTimes() api.Fp6 {
	return api.Fp6{A: api.Fp2{A: api.Fp{
		0x8BFD00000000AAAD, 0x409427EB4F49FFFD, 0x897D29650FB85F9B,
		0xAA0D857D89759AD4, 0xEC02408663D4DE85, 0x1A0111EA397FE699,
	}}}
}
