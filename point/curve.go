package point

import "chirograph/api"

// curve is what is done with the points P of one curve, and with their
// coordinates C: both curves' points are bytes in the same manner.
type curve[C, P any] struct {
	size     int // bytes of a coordinate
	write    func(C) string
	read     func(string) (C, api.Errno)
	high     func(C) bool
	negative func(C) C
	level    func(x C) (C, api.Errno) // the Y of an X that is not high
	zero     func() P
	made     func(x, y C) P
	parts    func(P) (x, y C, infinite bool)
	right    func(P) bool
	group    func(P) bool
}

// put, wide and get are Put1, Wide1 and Get1, or Put2, Wide2 and Get2. The point
// at infinity, if it may be, has X 0 and Y 0, which is not high: its bytes are
// those of any point with that X and Y, but for its flag.
func (c curve[C, P]) put(a P) (string, api.Errno) {
	if why := c.check(a); why != api.OK {
		return "", why
	}
	x, y, infinite := c.parts(a)
	flags := inShort | flag(atInfinity, infinite) | flag(isHigh, c.high(y))
	return marked(c.write(x), flags), api.OK
}

func (c curve[C, P]) wide(a P) (string, api.Errno) {
	if why := c.check(a); why != api.OK {
		return "", why
	}
	x, y, infinite := c.parts(a)
	return marked(c.write(x)+c.write(y), flag(atInfinity, infinite)), api.OK
}

func (c curve[C, P]) get(s string) (P, api.Errno) {
	var a, none P
	take := steps()
	take(func() api.Errno { return c.checkLength(s) })
	take(func() api.Errno { return checkFlags(s, len(s) == c.size) })
	take(func() (why api.Errno) { a, why = c.parse(s); return why })
	if why := take(func() api.Errno { return c.check(a) }); why != api.OK {
		return none, why
	}
	return a, api.OK
}

// check is ErrCurve, if a point may not be, and ErrGroup, if it is not of the group.
func (c curve[C, P]) check(a P) api.Errno {
	if !c.right(a) {
		return api.ErrCurve
	}
	if !c.group(a) {
		return api.ErrGroup
	}
	return api.OK
}

func (c curve[C, P]) checkLength(s string) api.Errno {
	if len(s) != c.size && len(s) != 2*c.size {
		return api.ErrLen
	}
	return api.OK
}

// parse is the point that a text of right length and flags tells of; whether that
// one may be, and is of the group, is not asked yet.
func (c curve[C, P]) parse(s string) (P, api.Errno) {
	if has(s, atInfinity) {
		return c.zero(), checkZeros(s)
	}
	if has(s, inShort) {
		return c.parseShort(bare(s), has(s, isHigh))
	}
	return c.parseFull(s)
}

func (c curve[C, P]) parseShort(s string, high bool) (P, api.Errno) {
	var x, y C
	take := steps()
	take(func() (why api.Errno) { x, why = c.read(s); return why })
	why := take(func() (why api.Errno) { y, why = c.level(x); return why })
	if high {
		y = c.negative(y)
	}
	return c.made(x, y), why
}

func (c curve[C, P]) parseFull(s string) (P, api.Errno) {
	var x, y C
	take := steps()
	take(func() (why api.Errno) { x, why = c.read(s[:c.size]); return why })
	why := take(func() (why api.Errno) { y, why = c.read(s[c.size:]); return why })
	return c.made(x, y), why
}
