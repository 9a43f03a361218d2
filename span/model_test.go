package span

import (
	"math"
	"strconv"
	"strings"

	"milepost/api"
)

// What the tests reckon with: cubes as 104 letters ('0', '1', '*'), apart from the bytes of package cube.

var (
	noughts = api.Header{}
	ones    = api.Header{255, 255, 255, 255, 255, 255, 255, 255, 255, 255, 255, 255, 255}
	nothing = api.Cube{}
)

// noise is a row of numbers without a pattern, always the same one.
type noise uint64

func (n *noise) next() byte {
	*n ^= *n << 13
	*n ^= *n >> 7
	*n ^= *n << 17
	return byte(*n >> 32)
}

func (n *noise) below(limit int) int {
	return (int(n.next())<<16 | int(n.next())<<8 | int(n.next())) % limit
}

func (n *noise) word() uint32 {
	return uint32(n.next())<<24 | uint32(n.next())<<16 | uint32(n.next())<<8 | uint32(n.next())
}

func bit(h api.Header, i int) byte {
	return h[i/8] >> (7 - i%8) & 1
}

func letters(c api.Cube) string {
	var b strings.Builder
	for i := range api.HeadBits {
		if bit(c.Mask, i) == 0 {
			b.WriteByte('*')
		} else {
			b.WriteByte('0' + bit(c.Value, i))
		}
	}
	return b.String()
}

// right makes the right cube of some letters, the bits behind them being free.
func right(s string) api.Cube {
	var c api.Cube
	for i, r := range s {
		if r != '*' {
			c.Mask[i/8] |= 128 >> (i % 8)
		}
		if r == '1' {
			c.Value[i/8] |= 128 >> (i % 8)
		}
	}
	return c
}

// wrong makes the cube of the same headers whose Value has ones at all free bits.
func wrong(s string) api.Cube {
	c := right(s)
	for i := range c.Value {
		c.Value[i] |= ^c.Mask[i]
	}
	return c
}

func list(rows ...string) []api.Cube {
	var out []api.Cube
	for _, s := range rows {
		out = append(out, right(s))
	}
	return out
}

func wrongs(rows ...string) []api.Cube {
	var out []api.Cube
	for _, s := range rows {
		out = append(out, wrong(s))
	}
	return out
}

// both reckons by letters what two cubes have together.
func both(s string, r string) (string, bool) {
	out := []byte(s)
	for i := range out {
		switch {
		case s[i] == '*':
			out[i] = r[i]
		case r[i] != '*' && r[i] != s[i]:
			return "", false
		}
	}
	return string(out), true
}

// digits are a number's bits as letters, the highest one first.
func digits(v uint64, width int) string {
	s := strconv.FormatUint(v, 2)
	return strings.Repeat("0", width-len(s)) + s
}

// starts is the cube of the headers whose field, of these letters, stands behind so many bits.
func starts(ahead int, field string) api.Cube {
	return right(strings.Repeat("*", ahead) + field)
}

// parts reckons a range's pieces from all numbers on: a half that lies within the range is a piece, one that lies across its end is halved again.
func parts(low int, high int, from int, bits int) []api.Piece {
	last := from + 1<<(16-bits) - 1
	switch {
	case high < from || last < low:
		return nil
	case low <= from && last <= high:
		return []api.Piece{{Value: from, Bits: bits}}
	}
	half := from + 1<<(15-bits)
	return append(parts(low, high, from, bits+1), parts(low, high, half, bits+1)...)
}

// edges are the numbers near powers of two and their sums.
func edges() []int {
	var out []int
	for b := range 17 {
		for d := -2; d <= 2; d++ {
			for _, n := range []int{1<<b + d, 65536 - 1<<b + d} {
				if n >= 0 && n <= 65535 {
					out = append(out, n)
				}
			}
		}
	}
	return out
}

// noRanges are pairs of which no range is made.
func noRanges() [][2]int {
	return [][2]int{
		{5, 4}, {1, 0}, {65535, 65534}, {65535, 0}, {0, -1}, {7, -7},
		{-1, 4}, {-1, -1}, {-1, 65535}, {math.MinInt, 4}, {math.MinInt, math.MinInt}, {math.MinInt, math.MaxInt},
		{0, 65536}, {65535, 65536}, {65536, 65536}, {80, math.MaxInt}, {math.MaxInt, math.MaxInt},
		{1 << 32, 1<<32 + 1}, {1 << 16, 1<<16 + 80}, {-65536, -65530}, {math.MaxInt, 4}, {65536, 80}, {4, math.MinInt},
	}
}

func noFields(taken ...int) []int {
	out := []int{-1, 5, 6, 1 << 32, 1<<32 + 2, math.MinInt, math.MaxInt}
	for f := range 5 {
		if f != taken[0] && f != taken[1] {
			out = append(out, f)
		}
	}
	return out
}
