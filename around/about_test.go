package around

import (
	"math"
	"strings"
	"testing"

	"milepost/api"
	"milepost/flat"
	"milepost/head"
	"milepost/sense"
)

// abouts holds About against the cube that must be, by its letters, and the rule, by its place. Right cubes or not, and whatever the header's bits behind the letters are, it is the same.
func abouts(t *testing.T, name string, l []api.Rule, h string, want string, place int) {
	t.Helper()
	for _, list := range [][]api.Rule{l, wrongs(l)} {
		for _, fill := range []string{"0", "1"} {
			c, a, ok := About(list, header(h, fill))
			if c != right(want) || a != l[place].Action || !ok {
				t.Errorf("%s: About(%s, %s), then %s: %s, %d, %v, not %s, %d", name, show(list), h, fill, short(c), a, ok, want, l[place].Action)
			}
		}
	}
}

func aboutsNothing(t *testing.T, name string, l []api.Rule, h string) {
	t.Helper()
	for _, list := range [][]api.Rule{l, wrongs(l)} {
		for _, fill := range []string{"0", "1"} {
			c, a, ok := About(list, header(h, fill))
			if c != (api.Cube{}) || a != 0 || ok {
				t.Errorf("%s: About(%s, %s), then %s: %s, %d, %v", name, show(list), h, fill, short(c), a, ok)
			}
		}
	}
}

func TestP152Examples(t *testing.T) {
	l := rules("1", "*")
	abouts(t, "0 at the front", l, "0", "0", 1)
	abouts(t, "1 at the front", l, "1", "1", 0)
	l = rules("11", "*")
	abouts(t, "about 01", l, "01", "0", 1)
	abouts(t, "about 10", l, "10", "*0", 1)
}

// The example of the whole: of a header to port 81, where port 80 goes elsewhere, the odd ports may be kept.
func TestP152OddPorts(t *testing.T) {
	m, e, _ := sense.Read("5 dport 80 -> port 2\ndefault -> drop")
	if e != api.OK {
		t.Fatal(e)
	}
	l, e := flat.Compile(m)
	if e != api.OK {
		t.Fatal(e)
	}
	c, a, ok := About(l, head.Make(1, 2, 3, 81, 6))
	if c != right(at(map[int]string{95: "1"})) || a != 0 || !ok {
		t.Error(letters(c), a, ok)
	}
	c, a, ok = About(l, head.Make(1, 2, 3, 80, 6))
	if c != l[0].Cube || a != 2 || !ok {
		t.Error(letters(c), a, ok)
	}
}

func TestP152NoSuchRule(t *testing.T) {
	aboutsNothing(t, "no rules", nil, "01")
	aboutsNothing(t, "an empty list", []api.Rule{}, "")
	aboutsNothing(t, "one rule that hasn't it", rules("1"), "0")
	aboutsNothing(t, "several", rules("00", "01", "110", "111"), "10")
	aboutsNothing(t, "behind the list", rules("0", "*")[:1], "1")
	h := strings.Repeat("01", 52)
	for i := range api.HeadBits {
		aboutsNothing(t, "by one bit", rules(turn(h, i)), h)
	}
}

func TestP152First(t *testing.T) {
	abouts(t, "one rule of all", rules("*"), "01", "", 0)
	abouts(t, "one rule", rules("0*1"), "011", "0*1", 0)
	abouts(t, "what stands behind counts for nothing", rules("0", "00", "01", "*"), "01", "0", 0)
	h := strings.Repeat("01", 52)
	abouts(t, "one header", rules(h, "*"), h, h, 0)
}

func TestP152NothingInItsWay(t *testing.T) {
	abouts(t, "the last of three", rules("00", "01", "1*1"), "111", "1*1", 2)
	abouts(t, "one between", rules("00", "01", "0"), "01", "01", 1)
	abouts(t, "the same cubes ahead have another header", rules("11", "11", "10"), "10", "10", 2)
}

func TestP152SeveralInItsWay(t *testing.T) {
	abouts(t, "two, a bit each", rules("1", "*1", "*"), "00", "00", 2)
	abouts(t, "three, a bit each", rules("1", "*1", "**0", "*"), "001", "001", 3)
	abouts(t, "two by one bit", rules("11", "10", "*"), "01", "0", 2)
	abouts(t, "one of them isn't in its way", rules("10", "001", "0"), "000", "0*0", 2)
	abouts(t, "two sides of one", rules("10", "01", "*"), "00", "00", 2)
}

// A rule ahead that the cube has nothing together with any more is passed over: for it no bit is fixed.
func TestP152PartedAlready(t *testing.T) {
	abouts(t, "by the first bit", rules("1*1", "11", "*"), "000", "0", 2)
	abouts(t, "by a later one", rules("**1", "*11", "*"), "000", "**0", 2)
	// Were the bit 1 fixed for the second rule, then the bit 0, which the third asks for, would be free again in its stead.
	abouts(t, "not by another bit too", rules("**1", "*11", "11", "*"), "000", "0*0", 3)
}

func TestP152FreeAgain(t *testing.T) {
	abouts(t, "for the second rule's sake", rules("11", "*1", "*"), "00", "*0", 2)
	abouts(t, "two of them", rules("1*1", "*11", "**1", "*"), "000", "**0", 3)
	abouts(t, "at the last bit", rules(strings.Repeat("1", 104), at(map[int]string{103: "1"}), "*"), strings.Repeat("0", 104), at(map[int]string{103: "0"}), 2)
	// The bits 0 and 1 were fixed both, either would do: the lesser one becomes free, then the other one can't.
	abouts(t, "rising", rules("11", "*11", "**1", "*"), "000", "*00", 3)
}

// The same rules ahead in another order may come to another cube.
func TestP152InOrder(t *testing.T) {
	abouts(t, "the least bits first", rules("11", "*11", "**1", "*"), "000", "*00", 3)
	abouts(t, "the last bit first", rules("**1", "*11", "11", "*"), "000", "0*0", 3)
	abouts(t, "the last bit between", rules("11", "**1", "*11", "*"), "000", "0*0", 3)
}

func TestP152StaysFixed(t *testing.T) {
	abouts(t, "both", rules("10", "01", "*"), "00", "00", 2)
	abouts(t, "one of two", rules("11", "*1", "1", "*"), "00", "00", 3)
	abouts(t, "one that the first rule alone asks for", rules("110", "*01", "**1", "*"), "000", "0*0", 3)
}

// The least bit counts that is fixed in the rule and other than in the header: neither one that is alike, nor a free one.
func TestP152LeastBit(t *testing.T) {
	abouts(t, "of two", rules("11", "*"), "00", "0", 1)
	abouts(t, "of two, the first is alike", rules("011", "*"), "000", "*0", 1)
	abouts(t, "of two, the first is free", rules("*11", "*"), "000", "*0", 1)
	abouts(t, "the other way round", rules("*00", "*"), "111", "*1", 1)
	ones := strings.Repeat("1", 104)
	for i := range api.HeadBits {
		h := strings.Repeat("0", i+1)
		abouts(t, "from a bit on", rules(h[:i]+ones[i:], "*"), h, at(map[int]string{i: "0"}), 1)
		h = ones[:i+1]
		abouts(t, "from a bit on, ones", rules(ones[:i]+strings.Repeat("0", 104-i), "*"), h, at(map[int]string{i: "1"}), 1)
		abouts(t, "a bit alone", rules(at(map[int]string{i: "0"}), "*"), h, at(map[int]string{i: "1"}), 1)
	}
}

// A bit that is fixed in the rule's own cube is never free.
func TestP152OwnBits(t *testing.T) {
	abouts(t, "none other", rules("1", "01"), "01", "01", 1)
	abouts(t, "one other", rules("001", "00"), "000", "000", 1)
	abouts(t, "the own bit says nothing of the rule ahead", rules("**1", "0"), "000", "0*0", 1)
	abouts(t, "behind it", rules("*11", "1*1", "*1"), "010", "*10", 2)
	h := strings.Repeat("10", 52)
	for i := range api.HeadBits {
		abouts(t, "all but one", rules(turn(h, i), change(h, i, "*")), h, h, 1)
		abouts(t, "all", rules(turn(h, i), h, "*"), h, h, 1)
	}
}

// Cubes that aren't right count as the right ones; the answer is right.
func TestP152NotRight(t *testing.T) {
	l := []api.Rule{
		{Cube: api.Cube{Value: api.Header{0: 0xbf, 12: 1}, Mask: api.Header{0: 0x80}}, Action: 3},
		{Cube: api.Cube{Value: api.Header{0: 0xff, 7: 5}}, Action: 4},
	}
	if c, a, ok := About(l, api.Header{0: 0x40}); c != right("0") || a != 4 || !ok {
		t.Error("the second one:", c, a, ok)
	}
	if c, a, ok := About(l, api.Header{0: 0xc0}); c != right("1") || a != 3 || !ok {
		t.Error("the first one:", c, a, ok)
	}
	if c, a, ok := About(l[1:], api.Header{9: 1}); c != (api.Cube{}) || a != 4 || !ok {
		t.Error("of all headers:", c, a, ok)
	}
}

// Of a rule that stands there more than once the first one is that for the header; Order and Action may be any numbers, and say nothing of which one it is.
func TestP152AnyNumbers(t *testing.T) {
	same := api.Rule{Order: -7, Cube: right("0"), Action: math.MinInt}
	ahead := api.Rule{Order: math.MaxInt, Cube: right("*1"), Action: math.MaxInt}
	rest := api.Rule{Order: math.MinInt, Action: -1}
	l := []api.Rule{ahead, same, rest, same, same}
	abouts(t, "the first of three", l, "00", "00", 1)
	abouts(t, "the one ahead", l, "01", "*1", 0)
	abouts(t, "the least Order", l, "10", "10", 2)
	l = []api.Rule{same, ahead, same}
	abouts(t, "nothing ahead of the first one", l, "00", "0", 0)
	abouts(t, "not of those behind", l, "01", "0", 0)
	abouts(t, "an Action of 0", []api.Rule{{Cube: right("1"), Action: 9}, {}}, "0", "0", 1)
}

// A rule ahead with the same action stands in its way as any other does.
func TestP152SameAction(t *testing.T) {
	l := []api.Rule{{Cube: right("1"), Action: 2}, {Cube: right("*"), Action: 2}}
	abouts(t, "behind one alike", l, "0", "0", 1)
}

func TestP152Reckoned(t *testing.T) {
	x := noise(7463325252881726454)
	none, parted, freed, plain := 0, 0, 0, 0
	look := func(l []api.Rule, h api.Header) {
		t.Helper()
		c, a, ok := About(l, h)
		wantC, wantA, wantOk, how := aboutOf(l, h)
		if c != wantC || a != wantA || ok != wantOk {
			t.Fatalf("About(%s, %s): %s, %d, %v, not %s, %d, %v", show(l), bits(h), short(c), a, ok, short(wantC), wantA, wantOk)
		}
		switch {
		case how.place < 0:
			none++
		case how.freed > 0:
			freed++
		case how.parted > 0:
			parted++
		default:
			plain++
		}
	}
	for n := range 200 {
		l := x.list(n % 16)
		for _, h := range all(byte(n)) {
			look(l, h)
		}
	}
	for n := range 600 {
		h := x.header()
		look(x.near(bits(h), 1+n%30, n%9), h)
	}
	if none < 300 || parted < 300 || freed < 300 || plain < 300 {
		t.Error("the lists are too much of one kind:", none, parted, freed, plain)
	}
}

// As many rules as a table has at most, all of them in the way of the last one, nearly all bits of which are fixed.
func TestP152GreatTable(t *testing.T) {
	x := noise(5)
	h := x.header()
	l := x.near(bits(h), api.MaxFlat, 0)
	c, a, ok := About(l, h)
	wantC, wantA, _, how := aboutOf(l, h)
	if c != wantC || a != wantA || !ok || how.place != api.MaxFlat-1 {
		t.Error(letters(c), letters(wantC), a, wantA, ok, how)
	}
	if how.fixed < 60 || how.parted < 60 || how.freed < 5 {
		t.Error("the table is too plain:", how)
	}
}
