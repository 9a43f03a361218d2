package around

import (
	"fmt"
	"slices"
	"strings"
	"testing"

	"milepost/api"
	"milepost/cube"
)

// What the tests reckon with: cubes as 104 letters ('0', '1', '*'), held against each other letter by letter; the cube about a header by the chapter's words, all rules ahead being asked each time.

// noise is a row of numbers without a pattern, always the same one.
type noise uint64

func (n *noise) next() uint64 {
	*n ^= *n << 13
	*n ^= *n >> 7
	*n ^= *n << 17
	return uint64(*n)
}

func (n *noise) below(limit int) int {
	return int(n.next()>>32) % limit
}

func (n *noise) header() api.Header {
	var h api.Header
	for i := range h {
		h[i] = byte(n.below(256))
	}
	return h
}

func bits(h api.Header) string {
	return cube.Text(cube.Of(h))
}

func letters(c api.Cube) string {
	return cube.Text(c)
}

// right makes the right cube of some letters, the bits behind them being free.
func right(s string) api.Cube {
	c, e := cube.Parse(s + strings.Repeat("*", api.HeadBits-len(s)))
	if e != api.OK {
		panic("no cube: " + s)
	}
	return c
}

// wrong makes the cube of the same headers whose Value has ones at all free bits.
func wrong(s string) api.Cube {
	c := right(s)
	_, c.Value = cube.Ends(c)
	return c
}

// header makes that of some letters, the bits behind them being all alike.
func header(s string, fill string) api.Header {
	return right(s + strings.Repeat(fill, api.HeadBits-len(s))).Value
}

// rules makes a list of cubes by their front letters, with orders and actions that tell them apart.
func rules(cubes ...string) []api.Rule {
	var out []api.Rule
	for i, s := range cubes {
		out = append(out, api.Rule{Order: 70 - 3*i, Cube: right(s), Action: 5 + i})
	}
	return out
}

// wrongs are the same rules, with cubes that aren't right.
func wrongs(l []api.Rule) []api.Rule {
	var out []api.Rule
	for _, x := range l {
		x.Cube = wrong(letters(x.Cube))
		out = append(out, x)
	}
	return out
}

// at is 104 letters of which all are free but those told: a letter for each place.
func at(places map[int]string) string {
	s := strings.Repeat("*", api.HeadBits)
	for i, letter := range places {
		s = change(s, i, letter)
	}
	return s
}

func change(s string, i int, letter string) string {
	return s[:i] + letter + s[i+1:]
}

// turn is some letters with the bit i the other way round.
func turn(s string, i int) string {
	if s[i] == '0' {
		return change(s, i, "1")
	}
	return change(s, i, "0")
}

// lies tells by letters whether a cube lies within another.
func lies(s string, r string) bool {
	for i := range s {
		if r[i] != '*' && r[i] != s[i] {
			return false
		}
	}
	return true
}

// touch tells by letters whether two cubes have a header together.
func touch(s string, r string) bool {
	for i := range s {
		if s[i] != '*' && r[i] != '*' && s[i] != r[i] {
			return false
		}
	}
	return true
}

func texts(l []api.Rule) []string {
	var out []string
	for _, x := range l {
		out = append(out, letters(x.Cube))
	}
	return out
}

// first is the place of the first cube that has a header; -1: none has.
func first(rows []string, h string) int {
	return slices.IndexFunc(rows, func(s string) bool { return lies(h, s) })
}

func needsOf(l []api.Rule, i int) []int {
	var out []int
	for k := range l {
		if i < len(l) && k < i && touch(letters(l[k].Cube), letters(l[i].Cube)) {
			out = append(out, k)
		}
	}
	return out
}

// course is how a cube about a header came to be: which rule is the one for it (-1: none), how many rules ahead a bit was fixed for, how many of those in its way were parted by a bit fixed for another one, how many bits became free again.
type course struct {
	place, fixed, parted, freed int
}

func aboutOf(l []api.Rule, g api.Header) (api.Cube, int, bool, course) {
	rows, h := texts(l), bits(g)
	place := first(rows, h)
	k := course{place: place}
	if place < 0 {
		return api.Cube{}, 0, false, k
	}
	own := rows[place]
	c := own
	for _, s := range rows[:place] {
		if !touch(s, c) {
			if touch(s, own) {
				k.parted++
			}
			continue
		}
		for i := range s {
			if s[i] != '*' && s[i] != h[i] {
				c = change(c, i, h[i:i+1])
				k.fixed++
				break
			}
		}
	}
	for i := range c {
		if c[i] == '*' || own[i] != '*' {
			continue
		}
		wider := change(c, i, "*")
		if !slices.ContainsFunc(rows[:place], func(s string) bool { return touch(s, wider) }) {
			c = wider
			k.freed++
		}
	}
	return right(c), l[place].Action, true, k
}

// spots are the bits that the cubes of few bits have fixed, if any: at the edges of bytes and of fields, and between them.
func spots() []int {
	return []int{0, 7, 31, 64, 95, 103}
}

// few makes a cube that has only spots fixed, one in open of them free; not right for every other number.
func (n *noise) few(open int) api.Cube {
	s := at(nil)
	for _, i := range spots() {
		if n.below(open) != 0 {
			s = change(s, i, string('0'+rune(n.below(2))))
		}
	}
	if n.below(2) == 0 {
		return wrong(s)
	}
	return right(s)
}

// list makes rules of few bits: some of which lie within others, some twice; at times with one of all headers at the end.
func (n *noise) list(many int) []api.Rule {
	var out []api.Rule
	for i := range many {
		c := n.few(2 + n.below(2))
		if i > 0 && n.below(12) == 0 {
			c = out[n.below(i)].Cube
		}
		out = append(out, api.Rule{Order: n.below(99) - 9, Cube: c, Action: n.below(100)})
	}
	if many > 0 && n.below(2) == 0 {
		out[many-1].Cube = wrong("")
	}
	return out
}

// near makes rules that hardly differ from a header, in any bits, few or many of them fixed: all but the last one haven't it.
func (n *noise) near(h string, many int, fixed int) []api.Rule {
	var out []api.Rule
	for i := range many {
		s := at(nil)
		for range fixed {
			k := n.below(api.HeadBits)
			s = change(s, k, h[k:k+1])
		}
		for range 1 + n.below(3) {
			if k := n.below(api.HeadBits); i < many-1 {
				s = turn(change(s, k, h[k:k+1]), k)
			}
		}
		c := right(s)
		if n.below(2) == 0 {
			c = wrong(s)
		}
		out = append(out, api.Rule{Order: i, Cube: c, Action: n.below(100)})
	}
	return out
}

// all answers a header for each way in which the spots may stand; the other bits are those of fill.
func all(fill byte) []api.Header {
	var out []api.Header
	for n := range 1 << len(spots()) {
		var h api.Header
		for i := range h {
			h[i] = fill
		}
		for k, i := range spots() {
			h[i/8] &^= 128 >> (i % 8)
			h[i/8] |= byte(n>>k&1) << (7 - i%8)
		}
		out = append(out, h)
	}
	return out
}

func short(c api.Cube) string {
	return strings.TrimRight(letters(c), "*")
}

// show tells a list of rules by the first letters of their cubes.
func show(l []api.Rule) string {
	var out []string
	for _, x := range l {
		out = append(out, fmt.Sprintf("%s(%d, %d)", short(x.Cube), x.Order, x.Action))
	}
	return "[" + strings.Join(out, " ") + "]"
}

// TestReckoning holds the reckoning itself against the chapter's examples.
func TestReckoning(t *testing.T) {
	for _, x := range []struct {
		l      []api.Rule
		h      string
		cube   string
		action int
		how    course
	}{
		{rules("1", "*"), "0", "0", 6, course{1, 1, 0, 0}},
		{rules("1", "*"), "1", "1", 5, course{0, 0, 0, 0}},
		{rules("11", "*"), "01", "0", 6, course{1, 1, 0, 0}},
		{rules("11", "*"), "10", "*0", 6, course{1, 1, 0, 0}},
	} {
		c, a, ok, how := aboutOf(x.l, header(x.h, "0"))
		if c != right(x.cube) || a != x.action || !ok || how != x.how {
			t.Error(show(x.l), x.h, short(c), a, ok, how)
		}
	}
	if n := needsOf(rules("11", "0", "*"), 2); !slices.Equal(n, []int{0, 1}) {
		t.Error(n)
	}
}
