package point

import (
	"strings"

	"chirograph/api"
)

// The flags, from the first byte's highest bit down.
const (
	inShort byte = 0x80 >> iota
	atInfinity
	isHigh
)

// flag is a flag, if it is to be set, else none.
func flag(bit byte, set bool) byte {
	if set {
		return bit
	}
	return 0
}

func has(s string, bit byte) bool { return s[0]&bit != 0 }

// marked is a text with flags set in its first byte.
func marked(s string, flags byte) string {
	return string([]byte{s[0] | flags}) + s[1:]
}

// bare is a text with no flags.
func bare(s string) string {
	return string([]byte{s[0] &^ (inShort | atInfinity | isHigh)}) + s[1:]
}

// checkFlags is ErrFlag, if a text's flags are not as they may be, in short or in full.
func checkFlags(s string, short bool) api.Errno {
	if has(s, inShort) != short {
		return api.ErrFlag
	}
	if has(s, isHigh) && (!short || has(s, atInfinity)) {
		return api.ErrFlag
	}
	return api.OK
}

// checkZeros is ErrZero, if another bit than a flag is 1.
func checkZeros(s string) api.Errno {
	if strings.Trim(bare(s), "\x00") != "" {
		return api.ErrZero
	}
	return api.OK
}
