package cube

import (
	"milepost/api"
	"milepost/head"
)

// Text: a cube's bits.
func Text(c api.Cube) string {
	var out [api.HeadBits]byte
	for i := range out {
		switch {
		case !head.Bit(c.Mask, i):
			out[i] = '*'
		case head.Bit(c.Value, i):
			out[i] = '1'
		default:
			out[i] = '0'
		}
	}
	return string(out[:])
}

// Parse: a text as a cube.
func Parse(s string) (api.Cube, api.Errno) {
	if len(s) != api.HeadBits {
		return api.Cube{}, api.ErrForm
	}
	c := All()
	for i := range api.HeadBits {
		switch s[i] {
		case '0', '1':
			c, _ = Fix(c, i, s[i] == '1')
		case '*':
		default:
			return api.Cube{}, api.ErrForm
		}
	}
	return c, api.OK
}
