package plan

import (
	"fmt"
	"math"
	"slices"
	"strings"
	"testing"

	"milepost/api"
	"milepost/cube"
	"milepost/cut"
	"milepost/deal"
)

// What the tests reckon with: cubes as letters ('0', '1', '*'); who has what gathered by names, a rule at a time.

var (
	nan = math.NaN()
	inf = math.Inf(1)
)

// noise is a row of numbers without a pattern, always the same one.
type noise uint64

func (n *noise) next() uint64 {
	*n ^= *n << 13
	*n ^= *n >> 7
	*n ^= *n << 17
	return uint64(*n)
}

func (n *noise) below(limit int) int {
	return int(n.next()>>32) % limit
}

// small is a setup that may be, with six authorities and room for three rules and two leaves of an epoch.
func small() api.Setup {
	return api.Setup{Switches: 6, Authorities: 6, Cache: 2, Auth: 6, Part: 4, Grain: 1, Window: 4, Queue: 64, Wait: 4, Tries: 1, Time: 2, Beat: 1, Lease: 3, Lost: 3}
}

// rooms is the small one with other rooms of both banks.
func rooms(auth int, part int) api.Setup {
	s := small()
	s.Auth, s.Part = auth, part
	return s
}

// right makes the right cube of some letters, the bits behind them being free.
func right(s string) api.Cube {
	c, e := cube.Parse(s + strings.Repeat("*", api.HeadBits-len(s)))
	if e != api.OK {
		panic("no cube: " + s)
	}
	return c
}

// wrong makes the cube of the same headers whose Value has ones at all free bits.
func wrong(s string) api.Cube {
	c := right(s)
	_, c.Value = cube.Ends(c)
	return c
}

// rules makes a list of cubes by their front letters, with orders and actions that tell them apart.
func rules(cubes ...string) []api.Rule {
	var out []api.Rule
	for i, s := range cubes {
		out = append(out, api.Rule{Order: 70 - 3*i, Cube: right(s), Action: 5 + i})
	}
	return out
}

// heap makes so many rules, none of which lies within another one.
func heap(many int) []api.Rule {
	var out []api.Rule
	for i := range many {
		out = append(out, api.Rule{Order: i, Cube: right(fmt.Sprintf("%011b", i)), Action: i % 100})
	}
	return out
}

// leaf makes one by its holders, how many rules it has, and its cube's front letters.
func leaf(one int, two int, many int, front string) api.Leaf {
	out := api.Leaf{Cube: right(front), One: one, Two: two}
	for i := range many {
		out.Rules = append(out.Rules, api.Rule{Order: 9*i - 4, Cube: wrong(front), Action: i})
	}
	return out
}

// leaves makes as many with the same holders, each of so many rules.
func leaves(count int, one int, two int, many int) []api.Leaf {
	var out []api.Leaf
	for range count {
		out = append(out, leaf(one, two, many, "01"))
	}
	return out
}

func letters(c api.Cube) string {
	return strings.TrimRight(cube.Text(c), "*")
}

// show tells leaves in short: the error's number; of each leaf its cube, holders, and its rules' orders.
func show(l []api.Leaf, e api.Errno) string {
	out := fmt.Sprint(int(e))
	for _, x := range l {
		out += fmt.Sprintf(" %s:%d+%d", letters(x.Cube), x.One, x.Two)
		for _, r := range x.Rules {
			out += fmt.Sprintf(",%d", r.Order)
		}
	}
	return out
}

func same(a []api.Leaf, b []api.Leaf) bool {
	return slices.EqualFunc(a, b, func(x api.Leaf, y api.Leaf) bool {
		return x.Cube == y.Cube && x.One == y.One && x.Two == y.Two && slices.Equal(x.Rules, y.Rules)
	})
}

func copyLeaves(l []api.Leaf) []api.Leaf {
	var out []api.Leaf
	for _, x := range l {
		x.Rules = slices.Clone(x.Rules)
		out = append(out, x)
	}
	return out
}

// holders are the numbers that a leaf has as One or Two, each once.
func holders(x api.Leaf) []int {
	out := []int{x.One}
	if x.Two != x.One {
		out = append(out, x.Two)
	}
	return out
}

// itemsOf gathers partitions and rules in two lists, numbers them, and lays one behind the other.
func itemsOf(l []api.Leaf, n int) []api.Slot {
	parts, auths := make([]api.Slot, len(l)), []api.Slot{}
	for i, x := range l {
		parts[i].Bank, parts[i].At, parts[i].Cube = 3, i, x.Cube
		parts[i].One, parts[i].Two = x.One, x.Two
		if !slices.Contains(holders(x), n) {
			continue
		}
		for _, r := range x.Rules {
			auths = append(auths, api.Slot{Bank: 2, Order: r.Order, Cube: r.Cube, Action: r.Action, At: len(l) + len(auths)})
		}
	}
	return append(parts, auths...)
}

// loadOf counts the rules one by one, by who has them.
func loadOf(l []api.Leaf, n int) int {
	loads := map[int]int{}
	for _, x := range l {
		for range x.Rules {
			for _, m := range holders(x) {
				loads[m]++
			}
		}
	}
	return loads[n]
}

// fitsOf asks each of the words for itself.
func fitsOf(l []api.Leaf, s api.Setup) bool {
	ok := len(l) > 0 && 2*len(l) <= s.Part
	for _, x := range l {
		ok = ok && x.One > 0 && x.One <= s.Authorities
		ok = ok && x.Two >= 0 && x.Two <= s.Authorities && x.Two != x.One
		for _, n := range holders(x) {
			ok = ok && (n == 0 || 2*loadOf(l, n) <= s.Auth)
		}
	}
	return ok
}

// makeOf takes the trees and the pairs of the layers below, as the promise names them.
func makeOf(l []api.Rule, s api.Setup, live []int, weights []float64) ([]api.Leaf, api.Errno) {
	if !rightOf(s) {
		return nil, 1
	}
	there := slices.DeleteFunc(slices.Clone(live), func(n int) bool { return n <= 0 || n > s.Authorities })
	var last api.Errno
	for _, most := range []int{(s.Part - s.Part%2) / 2, 1} {
		tree := cut.Tree(l, most, s.Grain, s.Bias)
		sizes := make([]int, len(tree))
		for i := range tree {
			sizes[i] = len(tree[i].Rules)
		}
		pairs, e := deal.Deal(sizes, there, weights, (s.Auth-s.Auth%2)/2)
		if e == 0 {
			for i := range tree {
				tree[i].One, tree[i].Two = pairs[i].One, pairs[i].Two
			}
			return tree, 0
		}
		last = e
	}
	return nil, last
}

// rightOf writes out all numbers.
func rightOf(s api.Setup) bool {
	outside := func(n int, least int, most int) bool { return n < least || n > most }
	switch {
	case outside(s.Switches, 2, 6), outside(s.Authorities, 2, 6), s.Authorities > s.Switches:
		return false
	case outside(s.Cache, 0, 2048), outside(s.Auth, 2, 2048), outside(s.Part, 2, 64):
		return false
	case outside(s.Idle, 0, 1000), outside(s.Hard, 0, 1000), outside(s.Grain, 1, 512):
		return false
	case outside(s.Window, 1, 64), outside(s.Wait, 1, 64), outside(s.Tries, 1, 8), outside(s.Time, 2, 100):
		return false
	case outside(s.Beat, 1, 20), outside(s.Lease, 3, 200), outside(s.Lost, 3, 200), outside(s.Queue, 11, 512):
		return false
	}
	return s.Lease-3*s.Beat >= 0 && s.Lost-3*s.Beat >= 0 && s.Queue-2*s.Wait-s.Window >= 8
}

// spots are the bits that the rules' cubes of few bits have fixed, if any.
func spots() []int {
	return []int{0, 7, 31, 64, 95, 103}
}

// list makes rules of few bits: some of which lie within others; at times with one of all headers at the end.
func (n *noise) list(many int) []api.Rule {
	var out []api.Rule
	for i := range many {
		s := []byte(strings.Repeat("*", api.HeadBits))
		for _, k := range spots() {
			if n.below(5) < 2 {
				s[k] = '0' + byte(n.below(2))
			}
		}
		c := right(string(s))
		if n.below(2) == 0 {
			c = wrong(string(s))
		}
		out = append(out, api.Rule{Order: i, Cube: c, Action: n.below(100)})
	}
	if many > 0 && n.below(3) > 0 {
		out[many-1].Cube = wrong("")
	}
	return out
}

// numbers are such as may be in live, some of them no authority's.
func (n *noise) numbers(many int) []int {
	var out []int
	for range many {
		out = append(out, n.below(10)-1)
	}
	return out
}

func (n *noise) weights(many int) []float64 {
	kinds := []float64{0, 0, 1, 0.5, 3, -1, nan, inf, -inf, math.MaxFloat64, 1e-300}
	var out []float64
	for range many {
		out = append(out, kinds[n.below(len(kinds))])
	}
	return out
}

// setup is one that may be; its rooms are mostly small.
func (n *noise) setup() api.Setup {
	s := rooms(2+n.below(30), 2+n.below(20))
	s.Switches = 2 + n.below(5)
	s.Authorities = 2 + n.below(s.Switches-1)
	s.Grain = 1 + n.below(4)
	s.Bias = n.weights(1)[0]
	return s
}

// TestReckoning holds the reckoning itself against the chapter's examples.
func TestReckoning(t *testing.T) {
	s := rooms(4, 2)
	if x := show(makeOf(rules("0", "*"), s, []int{4, 2}, nil)); x != "0 :2+4,70,67" {
		t.Error(x)
	}
	if x := show(makeOf(rules("00", "10", "*"), s, []int{4, 2}, nil)); x != "15" {
		t.Error(x)
	}
	l := []api.Leaf{leaf(1, 2, 1, "0"), leaf(2, 0, 2, "1")}
	if a, b, c := loadOf(l, 1), loadOf(l, 2), loadOf(l, 3); a != 1 || b != 3 || c != 0 {
		t.Error(a, b, c)
	}
	if x := itemsOf(l, 2); len(x) != 5 || x[4].At != 4 || x[1].Bank != 3 || x[2].Bank != 2 {
		t.Error(x)
	}
	if !fitsOf(l, small()) || fitsOf(l, s) || fitsOf(nil, s) || !rightOf(s) || rightOf(api.Setup{}) {
		t.Error("fits, right")
	}
}
