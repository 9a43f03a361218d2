package cut

import (
	"fmt"
	"math"
	"slices"
	"strings"
	"testing"

	"milepost/api"
	"milepost/cube"
)

// What the tests reckon with: cubes as 104 letters ('0', '1', '*'), what they have together and how they lie reckoned letter by letter; trees by the promise's words, a leaf at a time.

// noise is a row of numbers without a pattern, always the same one.
type noise uint64

func (n *noise) next() uint64 {
	*n ^= *n << 13
	*n ^= *n >> 7
	*n ^= *n << 17
	return uint64(*n)
}

func (n *noise) below(limit int) int {
	return int(n.next()>>32) % limit
}

func bits(h api.Header) string {
	return cube.Text(cube.Of(h))
}

func letters(c api.Cube) string {
	return cube.Text(c)
}

// right makes the right cube of some letters, the bits behind them being free.
func right(s string) api.Cube {
	c, e := cube.Parse(s + strings.Repeat("*", api.HeadBits-len(s)))
	if e != api.OK {
		panic("no cube: " + s)
	}
	return c
}

// wrong makes the cube of the same headers whose Value has ones at all free bits.
func wrong(s string) api.Cube {
	c := right(s)
	_, c.Value = cube.Ends(c)
	return c
}

// rules makes a list of cubes by their front letters, with orders and actions that tell them apart.
func rules(cubes ...string) []api.Rule {
	var out []api.Rule
	for i, s := range cubes {
		out = append(out, api.Rule{Order: 70 - 3*i, Cube: right(s), Action: 5 + i})
	}
	return out
}

// wrongs are the same rules, with cubes that aren't right.
func wrongs(l []api.Rule) []api.Rule {
	var out []api.Rule
	for _, x := range l {
		x.Cube = wrong(letters(x.Cube))
		out = append(out, x)
	}
	return out
}

// at is some front letters of which all are free but those told: a letter for each place.
func at(places map[int]string) string {
	s := strings.Repeat("*", api.HeadBits)
	for i, letter := range places {
		s = change(s, i, letter)
	}
	return s
}

func change(s string, i int, letter string) string {
	return s[:i] + letter + s[i+1:]
}

// lies tells by letters whether a cube lies within another.
func lies(s string, r string) bool {
	for i := range s {
		if r[i] != '*' && r[i] != s[i] {
			return false
		}
	}
	return true
}

// both reckons by letters what two cubes have together.
func both(s string, r string) (string, bool) {
	out := []byte(s)
	for i := range out {
		switch {
		case s[i] == '*':
			out[i] = r[i]
		case r[i] != '*' && r[i] != s[i]:
			return "", false
		}
	}
	return string(out), true
}

// clipOf holds each rule's part of the cube against those of all rules ahead of it.
func clipOf(l []api.Rule, c api.Cube) []api.Rule {
	var out []api.Rule
	var ahead []string
	for _, x := range l {
		s, ok := both(letters(x.Cube), letters(c))
		if !ok {
			continue
		}
		if !slices.ContainsFunc(ahead, func(r string) bool { return lies(s, r) }) {
			out = append(out, api.Rule{Order: x.Order, Cube: right(s), Action: x.Action})
		}
		ahead = append(ahead, s)
	}
	return out
}

// countOf counts the rules that a half meets, up to the one that has all of it.
func countOf(rows []string, half string) int {
	last := slices.IndexFunc(rows, func(s string) bool { return lies(half, s) })
	if last >= 0 {
		rows = rows[:last+1]
	}
	n := 0
	for _, s := range rows {
		if _, ok := both(s, half); ok {
			n++
		}
	}
	return n
}

// biasOf is a bias as it counts.
func biasOf(x float64) float64 {
	switch {
	case math.IsNaN(x) || x <= 0:
		return 0
	case math.IsInf(x, 1):
		return math.MaxFloat64
	}
	return x
}

// cut is what a bit that can be cut by comes to.
type cut struct {
	bit, n, m int
	cost      float64
}

// cutsOf are those of all bits that can be cut by.
func cutsOf(l []api.Rule, c api.Cube, bias float64) []cut {
	var rows []string
	for _, x := range l {
		rows = append(rows, letters(x.Cube))
	}
	var out []cut
	s := letters(c)
	for i := range s {
		if s[i] != '*' {
			continue
		}
		n, m := countOf(rows, change(s, i, "0")), countOf(rows, change(s, i, "1"))
		product := biasOf(bias) * float64(n+m)
		if n < len(l) && m < len(l) {
			out = append(out, cut{i, n, m, float64(max(n, m)) + float64(product)})
		}
	}
	return out
}

func bestOf(l []api.Rule, c api.Cube, bias float64) (int, bool) {
	cuts := cutsOf(l, c, bias)
	if len(cuts) == 0 {
		return 0, false
	}
	return slices.MinFunc(cuts, func(a cut, b cut) int {
		switch {
		case a.cost < b.cost:
			return -1
		case a.cost > b.cost:
			return 1
		}
		return a.bit - b.bit
	}).bit, true
}

// treeOf cuts one leaf at a time. What it asked of a leaf it remembers by its cube.
func treeOf(l []api.Rule, leaves int, grain int, bias float64) []api.Leaf {
	type answer struct {
		bit int
		ok  bool
	}
	asked := map[api.Cube]answer{}
	best := func(x api.Leaf) (int, bool) {
		if _, ok := asked[x.Cube]; !ok {
			bit, ok := bestOf(x.Rules, x.Cube, bias)
			asked[x.Cube] = answer{bit, ok}
		}
		return asked[x.Cube].bit, asked[x.Cube].ok
	}
	out := []api.Leaf{{Rules: clipOf(l, api.Cube{})}}
	for len(out) < leaves {
		pick := -1
		for i, x := range out {
			if _, ok := best(x); !ok || len(x.Rules) <= grain {
				continue
			}
			if pick < 0 || len(x.Rules) > len(out[pick].Rules) {
				pick = i
			}
		}
		if pick < 0 {
			break
		}
		x := out[pick]
		bit, _ := best(x)
		var halves []api.Leaf
		for _, letter := range []string{"0", "1"} {
			c := right(change(letters(x.Cube), bit, letter))
			halves = append(halves, api.Leaf{Cube: c, Rules: clipOf(x.Rules, c)})
		}
		out = slices.Concat(out[:pick], halves, out[pick+1:])
	}
	return out
}

// spots are the bits that the cubes of few bits have fixed, if any: at the edges of bytes and of fields, and between them.
func spots() []int {
	return []int{0, 7, 31, 64, 95, 103}
}

// few makes a cube that has only spots fixed, one in open of them free; not right for every other number.
func (n *noise) few(open int) api.Cube {
	s := at(nil)
	for _, i := range spots() {
		if n.below(open) != 0 {
			s = change(s, i, string('0'+rune(n.below(2))))
		}
	}
	if n.below(2) == 0 {
		return wrong(s)
	}
	return right(s)
}

// list makes rules of few bits: some of which lie within others, some twice; at times with one of all headers at the end.
func (n *noise) list(many int) []api.Rule {
	var out []api.Rule
	for i := range many {
		c := n.few(2 + n.below(2))
		if i > 0 && n.below(12) == 0 {
			c = out[n.below(i)].Cube
		}
		out = append(out, api.Rule{Order: n.below(99) - 9, Cube: c, Action: n.below(100)})
	}
	if many > 0 && n.below(2) == 0 {
		out[many-1].Cube = wrong("")
	}
	return out
}

// all answers a header for each way in which the spots may stand; the other bits are those of fill.
func all(fill byte) []api.Header {
	var out []api.Header
	for n := range 1 << len(spots()) {
		var h api.Header
		for i := range h {
			h[i] = fill
		}
		for k, i := range spots() {
			h[i/8] &^= 128 >> (i % 8)
			h[i/8] |= byte(n>>k&1) << (7 - i%8)
		}
		out = append(out, h)
	}
	return out
}

// has tells by letters whether a cube has a header.
func has(c api.Cube, h api.Header) bool {
	return lies(bits(h), letters(c))
}

// says is the first rule's number that has a header; -1: none has.
func says(l []api.Rule, h api.Header) int {
	return slices.IndexFunc(l, func(x api.Rule) bool { return has(x.Cube, h) })
}

func same(a []api.Leaf, b []api.Leaf) bool {
	return slices.EqualFunc(a, b, func(x api.Leaf, y api.Leaf) bool {
		return x.Cube == y.Cube && x.One == y.One && x.Two == y.Two && slices.Equal(x.Rules, y.Rules)
	})
}

// show tells a list of rules by the first letters of their cubes.
func show(l []api.Rule) string {
	var out []string
	for _, x := range l {
		out = append(out, fmt.Sprintf("%s(%d, %d)", strings.TrimRight(letters(x.Cube), "*"), x.Order, x.Action))
	}
	return "[" + strings.Join(out, " ") + "]"
}

func showLeaves(l []api.Leaf) string {
	var out []string
	for _, x := range l {
		out = append(out, fmt.Sprintf("%s/%d/%d: %s", strings.TrimRight(letters(x.Cube), "*"), x.One, x.Two, show(x.Rules)))
	}
	return strings.Join(out, "; ")
}

// TestReckoning holds the reckoning itself against the chapter's examples.
func TestReckoning(t *testing.T) {
	l := rules("0", "*")
	if m := clipOf(l, right("1")); show(m) != "[1(67, 6)]" {
		t.Error(show(m))
	}
	if m := clipOf(l, right("0")); show(m) != "[0(70, 5)]" {
		t.Error(show(m))
	}
	if cuts := cutsOf(l, right(""), 0.5); !slices.Equal(cuts, []cut{{0, 1, 1, 2}}) {
		t.Error(cuts)
	}
	if x := showLeaves(treeOf(l, 2, 1, 0)); x != "0/0/0: [0(70, 5)]; 1/0/0: [1(67, 6)]" {
		t.Error(x)
	}
	if x := showLeaves(treeOf(l, 1, 1, 0)); x != "/0/0: [0(70, 5) (67, 6)]" {
		t.Error(x)
	}
}
