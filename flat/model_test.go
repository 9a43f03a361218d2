package flat

import (
	"fmt"
	"math"
	"slices"
	"strings"
	"testing"

	"milepost/api"
)

// What the tests reckon with: cubes as 104 letters ('0', '1', '*'), apart from the bytes of package cube; ranges by halves; rows by picking the greatest one again and again.

var (
	ones    = api.Header{255, 255, 255, 255, 255, 255, 255, 255, 255, 255, 255, 255, 255}
	nothing = api.Rule{}
)

// noise is a row of numbers without a pattern, always the same one.
type noise uint64

func (n *noise) next() uint64 {
	*n ^= *n << 13
	*n ^= *n >> 7
	*n ^= *n << 17
	return uint64(*n)
}

func (n *noise) below(limit int) int {
	return int(n.next()>>32) % limit
}

func (n *noise) pick(l ...int) int {
	return l[n.below(len(l))]
}

func letters(c api.Cube) string {
	value, mask := bits(c.Value), bits(c.Mask)
	out := []byte(value)
	for i := range out {
		if mask[i] == '0' {
			out[i] = '*'
		}
	}
	return string(out)
}

func bits(h api.Header) string {
	var b strings.Builder
	for _, x := range h {
		fmt.Fprintf(&b, "%08b", x)
	}
	return b.String()
}

// right makes the right cube of some letters, the bits behind them being free.
func right(s string) api.Cube {
	var c api.Cube
	for i, r := range s {
		if r != '*' {
			c.Mask[i/8] |= 128 >> (i % 8)
		}
		if r == '1' {
			c.Value[i/8] |= 128 >> (i % 8)
		}
	}
	return c
}

// wrong makes the cube of the same headers whose Value has ones at all free bits.
func wrong(s string) api.Cube {
	c := right(s)
	for i := range c.Value {
		c.Value[i] |= ^c.Mask[i]
	}
	return c
}

// rules makes a list of cubes by their front letters, with orders and actions that tell them apart.
func rules(cubes ...string) []api.Rule {
	var out []api.Rule
	for i, s := range cubes {
		out = append(out, api.Rule{Order: 70 - 3*i, Cube: right(s), Action: 5 + i})
	}
	return out
}

// lies tells by letters whether a cube lies within another.
func lies(s string, r string) bool {
	for i := range s {
		if r[i] != '*' && r[i] != s[i] {
			return false
		}
	}
	return true
}

// halves are the first bits of a range's pieces: a half of the numbers that lies within the range is a piece, one that lies across its end is halved again.
func halves(low int, high int, front string) []string {
	size := 1 << (16 - len(front))
	from := 0
	for _, r := range front {
		from = from*2 + int(r-'0')
	}
	from *= size
	switch {
	case high < from || from+size-1 < low:
		return nil
	case low <= from && from+size-1 <= high:
		return []string{front}
	}
	return append(halves(low, high, front+"0"), halves(low, high, front+"1")...)
}

// pieces are those of a range that may be.
func pieces(low int, high int) []string {
	if low < 0 || high > 65535 || low > high {
		return nil
	}
	return halves(low, high, "")
}

func fill(s string, width int) string {
	return s + strings.Repeat("*", width-len(s))
}

func address(v uint32, many int) string {
	many = min(max(many, 0), 32)
	return fill(fmt.Sprintf("%032b", v)[:many], 32)
}

// cubesOf are an entry's cubes by letters.
func cubesOf(x api.Entry) []string {
	if x.Default {
		return []string{fill("", 104)}
	}
	proto := fill("", 8)
	if x.Proto != -1 {
		proto = fmt.Sprintf("%08b", x.Proto)
	}
	if x.Proto < -1 || x.Proto > 255 {
		return nil
	}
	var out []string
	for _, s := range pieces(x.SLow, x.SHigh) {
		for _, d := range pieces(x.DLow, x.DHigh) {
			out = append(out, address(x.Src, x.SrcBits)+address(x.Dst, x.DstBits)+fill(s, 16)+fill(d, 16)+proto)
		}
	}
	return out
}

// ahead tells whether an entry counts ahead of another, which stands ahead of it in the list.
func ahead(x api.Entry, y api.Entry) bool {
	return !x.Default && (y.Default || x.Prio > y.Prio)
}

// rowsOf picks of what is left of a list the entry ahead of which there is none, again and again.
func rowsOf(l []api.Entry) []api.Entry {
	left := slices.Clone(l)
	var out []api.Entry
	for len(left) > 0 {
		best := 0
		for i, x := range left {
			if ahead(x, left[best]) {
				best = i
			}
		}
		out = append(out, left[best])
		left = slices.Delete(left, best, best+1)
	}
	return out
}

func expandOf(l []api.Entry) []api.Rule {
	var out []api.Rule
	for _, x := range rowsOf(l) {
		for _, s := range cubesOf(x) {
			out = append(out, api.Rule{Order: len(out), Cube: right(s), Action: x.Action})
		}
	}
	return out
}

// trimOf holds each rule against all that are ahead of it in the list, those that are left out too.
func trimOf(l []api.Rule) []api.Rule {
	var all []string
	for _, x := range l {
		all = append(all, letters(x.Cube))
	}
	var out []api.Rule
	for i, x := range l {
		if !slices.ContainsFunc(all[:i], func(s string) bool { return lies(all[i], s) }) {
			out = append(out, x)
		}
	}
	return out
}

func compileOf(l []api.Entry) []api.Rule {
	out := trimOf(expandOf(l))
	for i := range out {
		out[i].Order = i
	}
	return out
}

// expands holds Expand against the rules that must be: at all bounds that let them be, and at those that don't.
func expands(t *testing.T, l []api.Entry, want []api.Rule) {
	t.Helper()
	for _, most := range []int{len(want), len(want) + 1, 2048, 2049, 1<<32 + 1, math.MaxInt} {
		if got, e := Expand(l, most); e != api.OK || !slices.Equal(got, want) {
			t.Errorf("Expand(%v, %d): %v, %d, not %v", l, most, got, e, want)
		}
	}
	if len(want) == 0 {
		return
	}
	for _, most := range []int{len(want) - 1, len(want) / 2, 0, -1, math.MinInt} {
		if got, e := Expand(l, most); e != api.ErrMany || len(got) != 0 {
			t.Errorf("Expand(%v, %d): %v, %d", l, most, got, e)
		}
	}
}

// plain is an entry of all headers.
func plain(prio int, action int) api.Entry {
	return api.Entry{Prio: prio, SHigh: 65535, DHigh: 65535, Proto: -1, Action: action}
}

// one is an entry of all headers, but for what is changed.
func one(change func(x *api.Entry)) api.Entry {
	x := plain(5, 7)
	change(&x)
	return x
}

func rest(prio int, action int) api.Entry {
	return api.Entry{Default: true, Prio: prio, Action: action}
}

// ports are entries of one port each, from 0 on.
func ports(many int) []api.Entry {
	var out []api.Entry
	for i := range many {
		out = append(out, one(func(x *api.Entry) { x.DLow, x.DHigh, x.Action = i, i, i%99+1 }))
	}
	return out
}

// entry is any, one that can't be now and then; its ranges have few pieces or many.
func (n *noise) entry() api.Entry {
	count := func() int { return n.pick(-9, 0, 0, 1, 8, 31, 32, 33, math.MinInt, math.MaxInt) }
	from := func() (int, int) {
		low := n.pick(0, 0, 0, 1, 80, 81, 1000, 65535, n.below(65536))
		high := n.pick(low, low, low+1, low+2, 65535, 65535, 65535, 80, n.below(65536))
		switch n.below(12) {
		case 0:
			return n.pick(-1, math.MinInt, 9, 65536), n.pick(8, 65535, 65536, math.MaxInt)
		case 1, 2:
			return 1 + n.below(30000), 35000 + n.below(30000)
		}
		return low, high
	}
	x := api.Entry{
		Default: n.below(6) == 0,
		Prio:    n.pick(math.MinInt, -2, -1, 0, 1, 2, 2, 3, 65535, math.MaxInt),
		Src:     uint32(n.pick(0, 1, 0x0a000001, 0x0a800000, 1<<32-1, n.below(1<<31))),
		SrcBits: count(),
		Dst:     uint32(n.pick(0, 1, 0x0a000001, 0x0a800000, 1<<32-1, n.below(1<<31))),
		DstBits: count(),
		Proto:   n.pick(-1, -1, -1, -1, 0, 6, 17, 255, 256, -2),
		Action:  n.pick(-1, 0, 1, 2, 3, 99, 100),
	}
	x.SLow, x.SHigh = from()
	x.DLow, x.DHigh = from()
	return x
}

func (n *noise) entries(many int) []api.Entry {
	var out []api.Entry
	for range many {
		out = append(out, n.entry())
	}
	return out
}
