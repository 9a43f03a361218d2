package cover

import (
	"strings"
	"testing"

	"milepost/api"
)

// What the tests reckon with: cubes as 104 letters ('0', '1', '*'), apart from the bytes of package cube.

var (
	noughts = api.Header{}
	ones    = api.Header{255, 255, 255, 255, 255, 255, 255, 255, 255, 255, 255, 255, 255}
)

// noise is a row of numbers without a pattern, always the same one.
type noise uint64

func (n *noise) next() byte {
	*n ^= *n << 13
	*n ^= *n >> 7
	*n ^= *n << 17
	return byte(*n >> 32)
}

func (n *noise) below(limit int) int {
	return (int(n.next())<<8 | int(n.next())) % limit
}

func bit(h api.Header, i int) byte {
	return h[i/8] >> (7 - i%8) & 1
}

func letters(c api.Cube) string {
	var b strings.Builder
	for i := range api.HeadBits {
		if bit(c.Mask, i) == 0 {
			b.WriteByte('*')
		} else {
			b.WriteByte('0' + bit(c.Value, i))
		}
	}
	return b.String()
}

// right makes the right cube of some letters, the bits behind them being free.
func right(s string) api.Cube {
	var c api.Cube
	for i, r := range s {
		if r != '*' {
			c.Mask[i/8] |= 128 >> (i % 8)
		}
		if r == '1' {
			c.Value[i/8] |= 128 >> (i % 8)
		}
	}
	return c
}

// wrong makes the cube of the same headers whose Value has ones at all free bits.
func wrong(s string) api.Cube {
	c := right(s)
	for i := range c.Value {
		c.Value[i] |= ^c.Mask[i]
	}
	return c
}

func list(rows ...string) []api.Cube {
	var out []api.Cube
	for _, s := range rows {
		out = append(out, right(s))
	}
	return out
}

func wrongs(l []api.Cube) []api.Cube {
	var out []api.Cube
	for _, c := range l {
		out = append(out, wrong(letters(c)))
	}
	return out
}

// change is some letters with one of them another.
func change(s string, i int, letter string) string {
	return s[:i] + letter + s[i+1:]
}

// fits tells by letters whether a cube has a header.
func fits(s string, h api.Header) bool {
	for i := range api.HeadBits {
		if s[i] != '*' && s[i] != '0'+bit(h, i) {
			return false
		}
	}
	return true
}

// meets tells by letters whether two cubes have a header together.
func meets(s string, r string) bool {
	for i := range api.HeadBits {
		if s[i] != '*' && r[i] != '*' && s[i] != r[i] {
			return false
		}
	}
	return true
}

// minusOf reckons by letters, as P2.4 says it.
func minusOf(s string, r string) []string {
	if !meets(s, r) {
		return []string{s}
	}
	var out []string
	for i := range api.HeadBits {
		if s[i] == '*' && r[i] != '*' {
			out = append(out, change(s, i, string('0'+'1'-r[i])))
			s = change(s, i, r[i:i+1])
		}
	}
	return out
}

// leftOf reckons by letters, as 'Words' says it; and how many pieces there were at most, the beginning among them.
func leftOf(c api.Cube, l []api.Cube) ([]api.Cube, int) {
	pieces := []string{letters(c)}
	high := 1
	for _, b := range l {
		var next []string
		for _, p := range pieces {
			next = append(next, minusOf(p, letters(b))...)
		}
		pieces = next
		high = max(high, len(pieces))
	}
	return list(pieces...), high
}

// spots are the bits that the cubes of few bits have fixed, if any: at the edges of bytes and of fields, and between them.
func spots() []int {
	return []int{0, 7, 8, 31, 64, 79, 95, 103}
}

// few makes a cube that has only spots fixed, one in open of them free; not right for every other number.
func few(x *noise, open int) api.Cube {
	s := letters(api.Cube{})
	for _, i := range spots() {
		if x.below(open) != 0 {
			s = change(s, i, string('0'+rune(x.below(2))))
		}
	}
	if x.below(2) == 0 {
		return wrong(s)
	}
	return right(s)
}

// all answers a header for each way in which the spots may stand, rising; the other bits are those of fill.
func all(fill api.Header) []api.Header {
	var out []api.Header
	for n := range 1 << len(spots()) {
		h := fill
		for k, i := range spots() {
			h[i/8] &^= 128 >> (i % 8)
			if n>>(len(spots())-1-k)&1 == 1 {
				h[i/8] |= 128 >> (i % 8)
			}
		}
		out = append(out, h)
	}
	return out
}

// listHas tells by letters whether a list has a header.
func listHas(rows []string, h api.Header) bool {
	for _, s := range rows {
		if fits(s, h) {
			return true
		}
	}
	return false
}

func texts(l []api.Cube) []string {
	var out []string
	for _, c := range l {
		out = append(out, letters(c))
	}
	return out
}

// eachCase hands out cubes and lists of few bits: short and long lists, cubes that stand twice, cubes that are not right.
func eachCase(look func(c api.Cube, l []api.Cube)) {
	x := noise(88172645463325252)
	for n := range 150 {
		var l []api.Cube
		for range n % 10 {
			l = append(l, few(&x, 2))
		}
		if n%3 == 0 && len(l) > 0 {
			l = append(l, l[x.below(len(l))])
		}
		look(few(&x, 2), l)
		look(wrong(""), l)
		look(few(&x, 4), append(l, few(&x, 4)))
	}
}

// thousand leaves, of all headers, 100 pieces behind its first cube, 90 more behind each other one: 1000 in all.
func thousand() []api.Cube {
	l := list(strings.Repeat("1", 100))
	for i := range 10 {
		l = append(l, right(strings.Repeat("1", i)+"0"+strings.Repeat("1", 91)))
	}
	return l
}

// oneMore leaves of what thousand leaves one piece more.
func oneMore() api.Cube {
	return right(strings.Repeat("1", 10) + "011")
}

func mustLeave(t *testing.T, c api.Cube, l []api.Cube, pieces int) {
	t.Helper()
	if want, high := leftOf(c, l); len(want) != pieces || high != pieces {
		t.Fatalf("the test itself: %d pieces, at most %d, not %d", len(want), high, pieces)
	}
}
