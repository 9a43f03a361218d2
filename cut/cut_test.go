package cut

import (
	"math"
	"slices"
	"strings"
	"testing"

	"milepost/api"
)

// The tests are named by the promises of shared/doc/12-cut.md.

// clips holds Clip against the rules that must be: by their places in the list, and the letters of their cubes. Right cubes or not, it is the same.
func clips(t *testing.T, name string, l []api.Rule, c string, want ...api.Rule) {
	t.Helper()
	for _, list := range [][]api.Rule{l, wrongs(l)} {
		for _, k := range []api.Cube{right(c), wrong(c)} {
			if got := Clip(list, k); !slices.Equal(got, want) {
				t.Errorf("%s: Clip(%s, %s): %s, not %s", name, show(list), c, show(got), show(want))
			}
		}
	}
}

// as is a rule with another cube.
func as(x api.Rule, s string) api.Rule {
	x.Cube = right(s)
	return x
}

func TestP121Clip(t *testing.T) {
	clips(t, "no rules", nil, "01")
	clips(t, "an empty list", []api.Rule{}, "")
	l := rules("00", "01", "1")
	clips(t, "all headers", l, "", l...)
	clips(t, "a half", l, "0", l[0], l[1])
	clips(t, "a part of one", l, "011", as(l[1], "011"))
	clips(t, "across", l, "**1", as(l[0], "001"), as(l[1], "011"), as(l[2], "1*1"))
	clips(t, "one header", l, strings.Repeat("1", 104), as(l[2], strings.Repeat("1", 104)))
	clips(t, "the last bit", rules(at(map[int]string{103: "0"}), at(map[int]string{103: "1"})), at(map[int]string{103: "1"}), rules("", at(map[int]string{103: "1"}))[1])
}

func TestP121None(t *testing.T) {
	clips(t, "none meets it", rules("00", "01", "0*1"), "1")
	clips(t, "by the last bit", rules(strings.Repeat("0", 104)), strings.Repeat("0", 103)+"1")
	clips(t, "not even together", rules("00", "11"), "01")
}

func TestP121AllOfIt(t *testing.T) {
	l := rules("0", "*", "00")
	clips(t, "the first one", l, "00", as(l[0], "00"))
	clips(t, "the second one", l, "1", as(l[1], "1"))
	clips(t, "just as great", l, "0", l[0])
	clips(t, "behind a smaller one", rules("000", "0", "*"), "00", rules("000", "00")...)
	clips(t, "all headers ahead of all", rules("*", "0", "1", "01"), "0", rules("0")[0])
}

func TestP121Trimmed(t *testing.T) {
	l := rules("0", "00", "1", "0", "11", "*")
	clips(t, "within one ahead", l, "", l[0], l[2], l[5])
	clips(t, "two together have it", rules("0", "1", "*"), "", rules("0", "1", "*")...)
	clips(t, "within a smaller cube alone", rules("*0", "0*1", "**1"), "00", rules("00")[0])
	clips(t, "not within it elsewhere", rules("0*1", "**1"), "**1", rules("0*1", "**1")...)
	clips(t, "one behind isn't one ahead", rules("00", "0"), "", rules("00", "0")...)
	clips(t, "within one that is trimmed", rules("0", "00", "000"), "", rules("0")[0])
}

// Order and Action may be any numbers, and say nothing of which rules stay.
func TestP121AnyNumbers(t *testing.T) {
	l := []api.Rule{{Order: math.MaxInt, Cube: right("00"), Action: math.MinInt}, {Order: math.MinInt, Cube: right("0"), Action: math.MaxInt}, {Order: -1, Cube: right("01"), Action: -1}, {Order: math.MinInt, Cube: right("*"), Action: 0}}
	clips(t, "any numbers", l, "", l[0], l[1], l[3])
}

func TestP121Reckoned(t *testing.T) {
	x := noise(88172645463325252)
	trimmed, kept, none := 0, 0, 0
	for n := range 2000 {
		l, c := x.list(n%12), x.few(2+n%5)
		got, want := Clip(l, c), clipOf(l, c)
		if !slices.Equal(got, want) {
			t.Fatalf("Clip(%s, %s): %s, not %s", show(l), letters(c), show(got), show(want))
		}
		meet := 0
		for _, r := range l {
			if _, ok := both(letters(r.Cube), letters(c)); ok {
				meet++
			}
		}
		switch {
		case meet == 0:
			none++
		case meet > len(got):
			trimmed++
		default:
			kept++
		}
	}
	if trimmed < 300 || kept < 300 || none < 300 {
		t.Error("the lists are too much of one kind:", trimmed, kept, none)
	}
}

// bests holds Best against the bit that must be; -1: there is none. Right cubes or not, it is the same.
func bests(t *testing.T, name string, l []api.Rule, c string, bias float64, want int) {
	t.Helper()
	bit, found := max(want, 0), want >= 0
	for _, list := range [][]api.Rule{l, wrongs(l)} {
		for _, k := range []api.Cube{right(c), wrong(c)} {
			if i, ok := Best(list, k, bias); i != bit || ok != found {
				t.Errorf("%s: Best(%s, %s, %v): %d, %v, not %d, %v", name, show(list), c, bias, i, ok, bit, found)
			}
		}
	}
}

func TestP122Best(t *testing.T) {
	bests(t, "the example", rules("0", "*"), "", 0, 0)
	bests(t, "each half has one", rules("*0", "*1"), "", 0, 1)
	bests(t, "the more even one", rules("000", "001", "010", "110"), "", 0, 1)
	bests(t, "a bit that is fixed", rules("000", "001", "010"), "0", 0, 1)
	bests(t, "two of them", rules("0000", "0001", "0010"), "00", 0, 2)
}

func TestP122EachBit(t *testing.T) {
	for i := range api.HeadBits {
		nought, one := at(map[int]string{i: "0"}), at(map[int]string{i: "1"})
		bests(t, "two halves", rules(nought, one), "", 0, i)
		bests(t, "a half and all", rules(nought, "*"), "", 0.5, i)
		bests(t, "the other half and all", rules(one, "*"), "", 0.5, i)
		least := 0
		if i == 0 {
			least = 1
		}
		bests(t, "fixed already", rules(nought, one), nought, 0, least)
		// Of a cube with one free bit that one is the best, or none.
		header := change(strings.Repeat("01", 52), i, "*")
		bests(t, "one free bit", rules(change(header, i, "1"), change(header, i, "0")), header, 9, i)
	}
}

func TestP122None(t *testing.T) {
	bests(t, "no rules", nil, "", 0, -1)
	bests(t, "an empty list", []api.Rule{}, "01", 1, -1)
	bests(t, "one rule of all", rules("*"), "", 0, -1)
	bests(t, "one rule of a half", rules("0"), "", 0, -1)
	bests(t, "one rule of one header", rules(strings.Repeat("0", 104)), "", 0, -1)
	header := strings.Repeat("10", 52)
	bests(t, "no free bit", rules(header, header, "*"), header, 0, -1)
	bests(t, "no free bit, none meets it", rules(strings.Repeat("0", 104), "01"), header, 0, -1)
	bests(t, "one half meets all, whatever the bit is", rules("00", "0*0", "*00"), "", 0, -1)
	bests(t, "the other one", rules("11", "1*1", "*11"), "", 0, -1)
	bests(t, "the same one twice, but not of all of a half", rules("00", "00"), "", 0, -1)
}

// A bit whose one half meets all rules can't be cut by, however few the other one meets, or however great the bias is.
func TestP122OneHalfMeetsAll(t *testing.T) {
	bests(t, "the nought", rules("0*00", "0*01", "0*1"), "", 0, 2)
	bests(t, "the one", rules("1*00", "1*01", "1*1"), "", 0, 2)
	bests(t, "the nought, a great bias", rules("0*00", "0*01", "0*1"), "", 1e9, 2)
	bests(t, "the one, no other bit", rules("1*1", "11"), "", 0, -1)
	bests(t, "both halves, at a bit that no rule asks", rules("*01", "*10"), "", 0, 1)
}

func TestP122SeveralAlike(t *testing.T) {
	bests(t, "two bits", rules("00", "11"), "", 0, 0)
	bests(t, "two bits, the first being fixed", rules("000", "011"), "0", 0, 1)
	bests(t, "all bits", rules(strings.Repeat("0", 104), strings.Repeat("1", 104)), "", 0, 0)
	bests(t, "all but some", rules(strings.Repeat("0", 104), strings.Repeat("*", 50)+strings.Repeat("1", 54)), "", 0, 50)
	bests(t, "alike by the greater one, the other way round", rules("01", "01", "10"), "", 1, 0)
}

// Rules behind the first one that has all of a half say nothing there: they aren't counted. That one is.
func TestP122BehindAllOfIt(t *testing.T) {
	bests(t, "the half's own rule, then more", rules("0", "00", "01", "1"), "", 0, 0)
	bests(t, "all ahead of all", rules("*", "00", "01", "1"), "", 0, 0)
	bests(t, "all ahead of all, the first bits being fixed", rules("*", "0", "1"), "0101", 0, 4)
	bests(t, "all twice", rules("*", "*"), "", 1e300, 0)
	// By bit 0 the nought has 1, the one 3; by bit 1 it is 4 and 2 of 5.
	l := rules("0", "00", "001", "10", "11", "1")
	if cuts := cutsOf(l, right(""), 0); cuts[0].n != 1 || cuts[0].m != 3 {
		t.Fatal(cuts)
	}
	bests(t, "just up to it", l, "", 0, 0)
	// Of a half alone: bit 0 counts 2 and 2 of 4, bit 1 counts 3 (all four but 01) and 3.
	bests(t, "a rule ahead of it counts", rules("00", "0", "01", "1"), "", 0, 0)
}

// Rules that don't lie within the cube are taken as they are.
func TestP122NotWithin(t *testing.T) {
	l := rules("00*0", "0", "*")
	bests(t, "greater ones", l, "0", 0, 1)
	bests(t, "one that doesn't meet it counts among all", rules("1", "0"), "0", 0, 1)
	bests(t, "one that is alone", rules("1"), "0", 0, 1)
	bests(t, "none meets it", rules("10", "11", "1"), "01", 0, 2)
	bests(t, "a rule of all, and one elsewhere", rules("*", "1"), "00", 0, 2)
	bests(t, "one within, one elsewhere", rules("01", "1"), "0", 0, 1)
	bests(t, "by the third bit", rules("0*1", "0*0", "1"), "0", 0, 2)
}

// By bit 0 there are 3 and 3 of 5 rules, by bit 1 it is 4 and 1.
func even(front string) []api.Rule {
	return rules(front+"00", front+"00*", front+"10", front+"10*", front+"*1")
}

// lop is even with its two bits the other way round.
func lop() []api.Rule {
	return rules("00", "00*", "01", "01*", "1")
}

func TestP122Bias(t *testing.T) {
	for _, l := range [][]api.Rule{even(""), lop()} {
		cuts := cutsOf(l, right(""), 0)
		if len(cuts) != 2 || cuts[0].n+cuts[0].m+cuts[1].n+cuts[1].m != 11 {
			t.Fatal("the test itself:", cuts)
		}
	}
	rows := []struct {
		bias      float64
		even, lop int
	}{
		{0, 0, 1},
		{math.Copysign(0, -1), 0, 1},
		{math.SmallestNonzeroFloat64, 0, 1},
		{0.5, 0, 1},
		{0.999, 0, 1},
		{1, 0, 0}, // alike
		{1.001, 1, 0},
		{2, 1, 0},
		{1e6, 1, 0},
		{1e300, 1, 0},
		{math.MaxFloat64 / 6, 1, 0},
		{math.MaxFloat64 / 5.5, 1, 0}, // of one of both the cost is infinite
		{math.MaxFloat64 / 4, 0, 0},   // of both
		{math.MaxFloat64, 0, 0},
		{math.Inf(1), 0, 0},
		{-1, 0, 1},
		{-1e-300, 0, 1},
		{-1e300, 0, 1},
		{-math.MaxFloat64, 0, 1},
		{math.Inf(-1), 0, 1},
		{math.NaN(), 0, 1},
		{math.Copysign(math.NaN(), -1), 0, 1},
	}
	for _, r := range rows {
		bests(t, "even", even(""), "", r.bias, r.even)
		bests(t, "lop", lop(), "", r.bias, r.lop)
		bests(t, "even, behind two bits", even("10"), "10", r.bias, r.even+2)
	}
}

// Of the infinite the greatest finite number counts: a bit whose halves meet one rule in all has a finite cost then.
func TestP122InfiniteBias(t *testing.T) {
	l := rules("0*0", "1")
	bests(t, "one rule in all", l, "0", math.Inf(1), 2)
	bests(t, "the greatest one", l, "0", math.MaxFloat64, 2)
	bests(t, "no bias", l, "0", 0, 1)
	bests(t, "no rule in all", rules("1", "1"), "0", math.Inf(1), 1)
}

// A bias for which a product that isn't rounded by itself would make another bit the best one: even's costs, and lop's, come near each other at 1.
func TestP122RoundedProduct(t *testing.T) {
	seen := 0
	for k := -40; k <= 40; k++ {
		bias := 1 + float64(k)/(1<<52)
		a, b := 3+float64(bias*6), 4+float64(bias*5)
		fusedA, fusedB := math.FMA(bias, 6, 3), math.FMA(bias, 5, 4)
		if (b < a) != (fusedB < fusedA) {
			seen++
		}
		if (a < b) != (fusedA < fusedB) {
			seen++
		}
		bests(t, "even", even(""), "", bias, second(a, b))
		bests(t, "lop", lop(), "", bias, second(b, a))
	}
	if seen == 0 {
		t.Error("there are none of that kind")
	}
}

// second is 1, if the second cost is the lower one.
func second(a float64, b float64) int {
	if b < a {
		return 1
	}
	return 0
}

func biases() []float64 {
	return []float64{0, 0, 0.25, 0.5, 1, 1.5, 3, 100, 1e300, math.MaxFloat64, math.Inf(1), -1, math.Inf(-1), math.NaN()}
}

func TestP122Reckoned(t *testing.T) {
	x := noise(2463534242)
	none, first, later, depends := 0, 0, 0, 0
	for n := range 1500 {
		l, c := x.list(n%12), x.few(2+n%7)
		// Trees ask of rules within the cube, others of any.
		if n%3 != 0 {
			l = clipOf(l, c)
		}
		bias := biases()[x.below(len(biases()))]
		bit, found := bestOf(l, c, bias)
		if i, ok := Best(l, c, bias); i != bit || ok != found {
			t.Fatalf("Best(%s, %s, %v): %d, %v, not %d, %v", show(l), letters(c), bias, i, ok, bit, found)
		}
		cuts := cutsOf(l, c, 0)
		if plain, _ := bestOf(l, c, 0); plain != bit {
			depends++
		}
		switch {
		case !found:
			none++
		case cuts[0].bit == bit:
			first++
		default:
			later++
		}
	}
	if none < 300 || first < 300 || later < 80 || depends < 10 {
		t.Error("the lists are too much of one kind:", none, first, later, depends)
	}
}

func TestP124Find(t *testing.T) {
	h := api.Header{0b01000000, 12: 1}
	rows := []struct {
		name  string
		cubes []string
		at    int
		ok    bool
	}{
		{"no leaves", nil, 0, false},
		{"none of one", []string{"1"}, 0, false},
		{"none of many", []string{"1", "00", "011", at(map[int]string{103: "0"})}, 0, false},
		{"the one", []string{"*"}, 0, true},
		{"the second", []string{"1", "0"}, 1, true},
		{"the first of several", []string{"1", "00", "01", "0", "*", "010"}, 2, true},
		{"the first of the same", []string{"01", "01"}, 0, true},
		{"the last", []string{"1", "00", "011", at(map[int]string{103: "1"})}, 3, true},
		{"by one header", []string{"1", bits(h)}, 1, true},
	}
	for _, r := range rows {
		for _, make := range []func(string) api.Cube{right, wrong} {
			var l []api.Leaf
			for i, s := range r.cubes {
				l = append(l, api.Leaf{Cube: make(s), One: i, Two: -i, Rules: rules("1")})
			}
			if i, ok := Find(l, h); i != r.at || ok != r.ok {
				t.Errorf("%s: Find: %d, %v", r.name, i, ok)
			}
		}
	}
}

func TestP124Reckoned(t *testing.T) {
	x := noise(362436069)
	none, first, later := 0, 0, 0
	for n := range 400 {
		var l []api.Leaf
		for range n % 9 {
			l = append(l, api.Leaf{Cube: x.few(2)})
		}
		h := all(byte(n))[x.below(64)]
		want := slices.IndexFunc(l, func(k api.Leaf) bool { return has(k.Cube, h) })
		if i, ok := Find(l, h); i != max(want, 0) || ok != (want >= 0) {
			t.Fatalf("Find(%s, %v): %d, %v, not %d", showLeaves(l), h, i, ok, want)
		}
		switch {
		case want < 0:
			none++
		case want == 0:
			first++
		default:
			later++
		}
	}
	if none < 40 || first < 30 || later < 40 {
		t.Error("the lists are too much of one kind:", none, first, later)
	}
}
