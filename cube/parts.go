package cube

import (
	"milepost/api"
	"milepost/head"
)

// Fix: a cube with a bit fixed.
func Fix(c api.Cube, i int, one bool) (api.Cube, api.Errno) {
	if !isBit(i) {
		return api.Cube{}, api.ErrBit
	}
	c = Canon(c)
	c.Mask = set(c.Mask, i, true)
	c.Value = set(c.Value, i, one)
	return c, api.OK
}

// Loose: a cube with a bit free.
func Loose(c api.Cube, i int) (api.Cube, api.Errno) {
	if !isBit(i) {
		return api.Cube{}, api.ErrBit
	}
	c.Mask = set(c.Mask, i, false)
	return Canon(c), api.OK
}

// Split: a cube's two halves by a bit.
func Split(c api.Cube, i int) (api.Cube, api.Cube, api.Errno) {
	if !isBit(i) || head.Bit(c.Mask, i) {
		return api.Cube{}, api.Cube{}, api.ErrBit
	}
	nought, _ := Fix(c, i, false)
	one, _ := Fix(c, i, true)
	return nought, one, api.OK
}

// Minus: what a has and b hasn't, in cubes that have nothing together.
func Minus(a api.Cube, b api.Cube) []api.Cube {
	rest := Canon(a)
	both, ok := Meet(a, b)
	if !ok {
		return []api.Cube{rest}
	}
	var out []api.Cube
	// rest has what is still to be parted: bit by bit it comes nearer to what b has too, and is cut off there.
bits:
	for i := range api.HeadBits {
		switch {
		case rest == both:
			break bits
		case head.Bit(rest.Mask, i) || !head.Bit(both.Mask, i):
			continue bits
		}
		one := head.Bit(both.Value, i)
		off, _ := Fix(rest, i, !one)
		out = append(out, off)
		rest, _ = Fix(rest, i, one)
	}
	return out
}

func isBit(i int) bool {
	return i >= 0 && i < api.HeadBits
}

// set is a header with a bit as it is told, whatever it was.
func set(h api.Header, i int, one bool) api.Header {
	if head.Bit(h, i) != one {
		return head.Flip(h, i)
	}
	return h
}
