package sum

import (
	"math/bits"

	"chirograph/api"
)

const limbBits = 64

// digitWidth is how many bits a digit has: a bit more means fewer places, but twice
// as many buckets, which only more points are worth.
func digitWidth(points int) int { return max(1, 3*bits.Len(uint(points))/4) }

// places is how many digits the longest number has.
func places(ks []api.Fr, width int) int {
	longest := 0
	for _, k := range ks {
		longest = max(longest, length(k))
	}
	return (longest + width - 1) / width
}

// length is how many bits a number has, up to its highest 1.
func length(k api.Fr) int {
	for i := len(k) - 1; i >= 0; i-- {
		if k[i] != 0 {
			return limbBits*i + bits.Len64(k[i])
		}
	}
	return 0
}

// readDigits reads of each number the digit whose lowest bit is given. Bits are set
// one by one, as a digit may reach from one limb into the next one.
func readDigits(digits []int, ks []api.Fr, low, width int) {
	clear(digits)
	for i, k := range ks {
		for bit := range width {
			digits[i] |= bitOf(k, low+bit) << bit
		}
	}
}

// bitOf is a bit of a number, 0 above its highest limb.
func bitOf(k api.Fr, place int) int {
	if place >= limbBits*len(k) {
		return 0
	}
	return int(k[place/limbBits] >> (place % limbBits) & 1)
}
