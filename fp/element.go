package fp

import (
	"chirograph/api"
	"chirograph/nat"
)

// width is how many bytes an element has.
const width = 8 * api.FpLimbs

// modulus is p.
func modulus() api.Fp {
	return api.Fp{
		0xB9FEFFFFFFFFAAAB, 0x1EABFFFEB153FFFF, 0x6730D2A0F6B0F624,
		0x64774B84F38512BF, 0x4B1BA7B6434BACD7, 0x1A0111EA397FE69A,
	}
}

// square is 2^384 times 2^384, modulo p.
func square() api.Fp {
	return api.Fp{
		0xF4DF1F341C341746, 0x0A76E6A609D104F1, 0x8DE5476C4C95B6D5,
		0x67EB88A9939D83C0, 0x9A793E85B519952D, 0x11988FE592CAE3AA,
	}
}

// quarter is (p + 1) / 4, a whole number, as p leaves 3, divided by 4.
func quarter() api.Fp {
	return api.Fp{
		0xEE7FBFFFFFFFEAAB, 0x07AAFFFFAC54FFFF, 0xD9CC34A83DAC3D89,
		0xD91DD2E13CE144AF, 0x92C6E9ED90D2EB35, 0x0680447A8E5FF9A6,
	}
}

// number is the number of a row of six limbs.
func number(row []uint64) api.Fp {
	var a api.Fp
	copy(a[:], row)
	return a
}

func lessModulus(a api.Fp) api.Fp {
	m := modulus()
	less, _ := nat.Sub(a[:], m[:])
	return number(less)
}
