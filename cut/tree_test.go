package cut

import (
	"math"
	"slices"
	"strings"
	"testing"

	"milepost/api"
)

// leafOf is a leaf by its cube's letters.
func leafOf(c string, l ...api.Rule) api.Leaf {
	return api.Leaf{Cube: right(c), Rules: l}
}

// trees holds Tree against the leaves that must be. Right cubes or not, it is the same.
func trees(t *testing.T, name string, l []api.Rule, leaves int, grain int, bias float64, want ...api.Leaf) {
	t.Helper()
	for _, list := range [][]api.Rule{l, wrongs(l)} {
		if got := Tree(list, leaves, grain, bias); !same(got, want) {
			t.Errorf("%s: Tree(%s, %d, %d, %v): %s, not %s", name, show(list), leaves, grain, bias, showLeaves(got), showLeaves(want))
		}
	}
}

// four has a rule for each front of two bits.
func four() []api.Rule {
	return rules("00", "01", "10", "11")
}

func TestP123Tree(t *testing.T) {
	l := rules("0", "*")
	trees(t, "the example", l, 2, 1, 0, leafOf("0", l[0]), leafOf("1", as(l[1], "1")))
	trees(t, "the example with one leaf", l, 1, 1, 0, leafOf("", l...))
	l = four()
	trees(t, "three leaves", l, 3, 1, 0, leafOf("00", l[0]), leafOf("01", l[1]), leafOf("1", l[2], l[3]))
	trees(t, "four leaves", l, 4, 1, 0, leafOf("00", l[0]), leafOf("01", l[1]), leafOf("10", l[2]), leafOf("11", l[3]))
	trees(t, "the root's rules are trimmed, the leaves' too", rules("0", "00", "1", "11"), 9, 0, 0, leafOf("0", rules("0")[0]), leafOf("1", as(rules("", "", "1")[2], "1")))
	trees(t, "the nought first", rules("1", "*"), 2, 1, 0, leafOf("0", as(rules("", "*")[1], "0")), leafOf("1", rules("1")[0]))
}

func TestP123Leaves(t *testing.T) {
	l := four()
	whole := leafOf("", l...)
	for _, leaves := range []int{math.MinInt, -1 << 40, -9, -1, 0, 1} {
		trees(t, "one leaf", l, leaves, 0, 0, whole)
		trees(t, "one leaf", l, leaves, -1, 9, whole)
	}
	trees(t, "two", l, 2, 0, 0, leafOf("0", l[0], l[1]), leafOf("1", l[2], l[3]))
	for _, leaves := range []int{4, 5, 1000, 1 << 40, math.MaxInt} {
		trees(t, "more can't be made", l, leaves, 0, 0, leafOf("00", l[0]), leafOf("01", l[1]), leafOf("10", l[2]), leafOf("11", l[3]))
	}
}

func TestP123Grain(t *testing.T) {
	l := four()
	quarters := []api.Leaf{leafOf("00", l[0]), leafOf("01", l[1]), leafOf("10", l[2]), leafOf("11", l[3])}
	for _, grain := range []int{math.MinInt, -1 << 40, -1, 0, 1} {
		trees(t, "all are cut", l, 9, grain, 0, quarters...)
	}
	for _, grain := range []int{2, 3} {
		trees(t, "one cut", l, 9, grain, 0, leafOf("0", l[0], l[1]), leafOf("1", l[2], l[3]))
	}
	for _, grain := range []int{4, 5, 1 << 40, math.MaxInt} {
		trees(t, "no cut", l, 9, grain, 0, leafOf("", l...))
	}
	// What is trimmed of the list doesn't count for the grain.
	more := append(four(), rules("000", "001", "1111")...)
	trees(t, "trimmed", more, 9, 4, 0, leafOf("", l...))
	trees(t, "trimmed, one cut", more, 9, 3, 0, leafOf("0", l[0], l[1]), leafOf("1", l[2], l[3]))
}

func TestP123NoRules(t *testing.T) {
	for _, l := range [][]api.Rule{nil, {}} {
		for _, n := range []int{math.MinInt, -1, 0, 1, 2, 9, math.MaxInt} {
			trees(t, "no rules", l, n, 0, 0, leafOf(""))
			trees(t, "no rules", l, 9, n, 1, leafOf(""))
			trees(t, "no rules", l, n, -1, math.NaN(), leafOf(""))
		}
	}
	l := rules("01")
	trees(t, "one rule", l, 9, 0, 0, leafOf("", l...))
	trees(t, "one rule of all", rules("*"), 9, -5, 0, leafOf("", rules("*")...))
}

// The one with the most rules is cut, wherever it stands; of several the first.
func TestP123Most(t *testing.T) {
	// By the first bit there are 2 and 3 rules, then 2, 2 and 1.
	l := rules("00", "01", "100", "101", "11")
	trees(t, "the second has the most", l, 3, 1, 0, leafOf("0", l[0], l[1]), leafOf("10", l[2], l[3]), leafOf("11", l[4]))
	trees(t, "the first of two", l, 4, 1, 0, leafOf("00", l[0]), leafOf("01", l[1]), leafOf("10", l[2], l[3]), leafOf("11", l[4]))
	trees(t, "then the other", l, 5, 1, 0, leafOf("00", l[0]), leafOf("01", l[1]), leafOf("100", l[2]), leafOf("101", l[3]), leafOf("11", l[4]))
	trees(t, "none with more than the grain", l, 9, 2, 0, leafOf("0", l[0], l[1]), leafOf("10", l[2], l[3]), leafOf("11", l[4]))
	// By the first bit there are 3 and 2.
	l = rules("000", "001", "01", "10", "11")
	trees(t, "the first has the most", l, 3, 1, 0, leafOf("00", l[0], l[1]), leafOf("01", l[2]), leafOf("1", l[3], l[4]))
	trees(t, "the first of two, a half", l, 4, 1, 0, leafOf("000", l[0]), leafOf("001", l[1]), leafOf("01", l[2]), leafOf("1", l[3], l[4]))
	// By the first two bits there are 2 rules in each.
	l = rules("000", "001", "010", "011", "100", "101", "110", "111")
	trees(t, "several", l, 6, 1, 0, leafOf("000", l[0]), leafOf("001", l[1]), leafOf("010", l[2]), leafOf("011", l[3]), leafOf("10", l[4], l[5]), leafOf("11", l[6], l[7]))
}

// stuck has three rules at the nought of which each bit's one half meets all.
func stuck(front string) []string {
	return []string{front + "000", front + "00*0", front + "0*00"}
}

// The leaf with the most rules may have no best bit: the next one is cut.
func TestP123Stuck(t *testing.T) {
	l := rules(append(stuck("0"), "10", "11")...)
	trees(t, "the first", l, 9, 1, 0, leafOf("0", l[:3]...), leafOf("10", l[3]), leafOf("11", l[4]))
	l = rules(append([]string{"00", "01"}, stuck("1")...)...)
	trees(t, "the last", l, 9, 1, 0, leafOf("00", l[0]), leafOf("01", l[1]), leafOf("1", l[2:]...))
	l = rules(append(stuck("0"), stuck("1")...)...)
	trees(t, "both", l, 9, 1, 0, leafOf("0", l[:3]...), leafOf("1", l[3:]...))
	l = rules(stuck("")...)
	trees(t, "the whole", l, 9, 0, 0, leafOf("", l...))
	// One of as many rules is stuck, the other isn't.
	l = rules(append(stuck("0"), "100", "101", "11")...)
	trees(t, "the second of two", l, 3, 1, 0, leafOf("0", l[:3]...), leafOf("10", l[3], l[4]), leafOf("11", l[5]))
}

// A leaf's best bit is its own: leaves may be cut by different bits, in an order that isn't that of their headers.
func TestP123ByOwnBits(t *testing.T) {
	l := rules("0**0", "0**1", "1*0", "1*1")
	trees(t, "by different bits", l, 9, 1, 0, leafOf("0**0", l[0]), leafOf("0**1", l[1]), leafOf("1*0", l[2]), leafOf("1*1", l[3]))
	// At the beginning the last bit is the only one that parts them evenly.
	l = rules("0**0", "1**0", "**01", "**11")
	trees(t, "from behind", l, 9, 1, 0, leafOf("0**0", l[0]), leafOf("1**0", l[1]), leafOf("**01", l[2]), leafOf("**11", l[3]))
	last := at(map[int]string{103: "0"})
	trees(t, "by the last bit", rules(last, "*"), 9, 0, 0, leafOf(last, rules(last)[0]), leafOf(change(last, 103, "1"), as(rules("", "*")[1], change(last, 103, "1"))))
}

// The bias goes along to each cut.
func TestP123Bias(t *testing.T) {
	for _, l := range [][]api.Rule{rules("00", "00*0", "100", "1000", "*1", "001"), rules("00", "000", "01", "010", "1", "*")} {
		for _, bias := range biases() {
			for leaves := range 8 {
				trees(t, "any bias", l, leaves, 1, bias, treeOf(l, leaves, 1, bias)...)
			}
		}
	}
	l := rules("00*0", "00*1", "10*0", "10*1", "*1")
	for _, bias := range []float64{0, 0.5, -9, math.NaN(), math.Inf(1)} {
		trees(t, "by bit 0", l, 2, 1, bias, leafOf("0", l[0], l[1], as(l[4], "01")), leafOf("1", l[2], l[3], as(l[4], "11")))
	}
	for _, bias := range []float64{1.5, 2, 1e300} {
		trees(t, "by bit 1", l, 2, 1, bias, leafOf("*0", l[:4]...), leafOf("*1", l[4]))
	}
}

func TestP123Reckoned(t *testing.T) {
	x := noise(521288629)
	one, some, full, stuck := 0, 0, 0, 0
	for n := range 500 {
		l := x.list(n % 14)
		leaves, grain, bias := x.below(14)-1, x.below(6)-1, biases()[x.below(len(biases()))]
		if n%5 == 0 {
			leaves = math.MaxInt
		}
		got, want := Tree(l, leaves, grain, bias), treeOf(l, leaves, grain, bias)
		if !same(got, want) {
			t.Fatalf("Tree(%s, %d, %d, %v): %s, not %s", show(l), leaves, grain, bias, showLeaves(got), showLeaves(want))
		}
		left := slices.ContainsFunc(got, func(y api.Leaf) bool { return len(y.Rules) > max(grain, 1) })
		switch {
		case len(got) == 1:
			one++
		case len(got) == leaves:
			full++
		case left:
			stuck++
		default:
			some++
		}
	}
	if one < 80 || some < 40 || full < 80 || stuck < 40 {
		t.Error("the trees are too much of one kind:", one, some, full, stuck)
	}
}

// One leaf more is one cut more: the leaves of the smaller tree but one are leaves of the greater one.
func TestP123OneMore(t *testing.T) {
	x := noise(7)
	cuts := 0
	for range 40 {
		l := x.list(12)
		small := Tree(l, 1, 1, 0.5)
		for leaves := 2; leaves < 20; leaves++ {
			tree := Tree(l, leaves, 1, 0.5)
			if len(tree) == len(small) {
				if !same(tree, small) {
					t.Fatal(showLeaves(tree), showLeaves(small))
				}
				break
			}
			cuts++
			k := 0
			for same(tree[k:k+1], small[k:k+1]) {
				k++
			}
			if len(tree) != len(small)+1 || !same(tree[k+2:], small[k+1:]) {
				t.Fatal(showLeaves(tree), showLeaves(small))
			}
			small = tree
		}
	}
	if cuts < 100 {
		t.Error("too few cuts:", cuts)
	}
}

// The leaves of a tree are apart and have all headers; each one's rules say of its headers what the list says.
func TestP125Leaves(t *testing.T) {
	x := noise(36969)
	many, unsaid := 0, 0
	for n := range 120 {
		l := x.list(n % 14)
		tree := Tree(l, 1+n%9, x.below(4)-1, biases()[x.below(len(biases()))])
		if len(tree) > 3 {
			many++
		}
		for _, h := range append(all(0), all(byte(n|1))...) {
			var in []int
			for i, y := range tree {
				if has(y.Cube, h) {
					in = append(in, i)
				}
			}
			if i, ok := Find(tree, h); len(in) != 1 || !ok || i != in[0] {
				t.Fatalf("%v is in %v, found in %d, %v: %s", h, in, i, ok, showLeaves(tree))
			}
			y := tree[in[0]].Rules
			a, b := says(l, h), says(y, h)
			switch {
			case a < 0 && b < 0:
				unsaid++
			case a < 0 || b < 0 || l[a].Order != y[b].Order || l[a].Action != y[b].Action:
				t.Fatalf("of %v the list says %d, the leaf %d: %s, %s", h, a, b, show(l), show(y))
			}
		}
	}
	if many < 40 || unsaid < 100 {
		t.Error("the trees are too much of one kind:", many, unsaid)
	}
}

// No leaf has more rules than the list, nor one that isn't right, that lies outside it, or within one ahead.
func TestP125Rules(t *testing.T) {
	x := noise(123456789)
	cut := 0
	for n := range 300 {
		l := x.list(n % 14)
		whole := len(clipOf(l, api.Cube{}))
		tree := Tree(l, 1+n%20, n%3, biases()[x.below(len(biases()))])
		for i, y := range tree {
			if len(y.Rules) > whole || len(tree) > 1 && len(y.Rules) >= whole {
				t.Fatalf("%d rules of %d: %s", len(y.Rules), whole, showLeaves(tree))
			}
			if !slices.Equal(y.Rules, clipOf(l, y.Cube)) || y.Cube != right(letters(y.Cube)) || y.One != 0 || y.Two != 0 {
				t.Fatalf("the leaf %d: %s, of %s", i, showLeaves(tree[i:i+1]), show(l))
			}
			cut += min(len(tree)-1, 1)
		}
	}
	if cut < 500 {
		t.Error("too few leaves:", cut)
	}
}

// A table as a policy has it: as many leaves as partitions may be.
func TestP125GreatTable(t *testing.T) {
	x := noise(99)
	var l []api.Rule
	for i := range api.MaxFlat - 1 {
		var c api.Cube
		for k := range c.Value {
			c.Value[k] = byte(x.next() >> 40)
		}
		front := []int{8, 16, 24, 32}[x.below(4)]
		s := bits(c.Value)[:front]
		if x.below(2) == 0 {
			s = at(nil)[:32] + s
		}
		if x.below(2) == 0 {
			s += at(nil)[:80-len(s)] + bits(c.Value)[80:80+x.below(17)]
		}
		l = append(l, api.Rule{Order: i, Cube: right(s), Action: x.below(100)})
	}
	l = append(l, api.Rule{Order: len(l)})
	tree := Tree(l, 32, 1, 0.25)
	if len(tree) != 32 || len(tree[0].Rules) >= 200 {
		t.Error(len(tree), len(tree[0].Rules))
	}
	for range 300 {
		var h api.Header
		for k := range h {
			h[k] = byte(x.next() >> 40)
		}
		// Half of the headers are some rule's.
		if r := l[x.below(len(l))]; x.below(2) == 0 {
			for k := range h {
				h[k] = h[k]&^r.Cube.Mask[k] | r.Cube.Value[k]
			}
		}
		i, ok := Find(tree, h)
		if !ok || strings.Count(found(tree, h), "1") != 1 {
			t.Fatal(i, ok, found(tree, h))
		}
		y := tree[i].Rules
		if l[says(l, h)].Order != y[says(y, h)].Order {
			t.Fatal(h, i)
		}
	}
}

// found has a letter for each leaf: whether it has a header.
func found(tree []api.Leaf, h api.Header) string {
	var b strings.Builder
	for _, x := range tree {
		if has(x.Cube, h) {
			b.WriteByte('1')
		} else {
			b.WriteByte('0')
		}
	}
	return b.String()
}
