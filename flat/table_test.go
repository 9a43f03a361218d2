package flat

import (
	"math"
	"slices"
	"strings"
	"testing"

	"milepost/api"
	"milepost/cube"
	"milepost/head"
	"milepost/sense"
)

// trims holds Trim against the places that must stay.
func trims(t *testing.T, l []api.Rule, places ...int) {
	t.Helper()
	var want []api.Rule
	for _, i := range places {
		want = append(want, l[i])
	}
	if got := Trim(l); !slices.Equal(got, want) || !slices.Equal(trimOf(l), want) {
		t.Errorf("Trim(%v): %v, not %v", l, got, want)
	}
	// The cubes' bits that say nothing change nothing, and stay.
	loose := slices.Clone(l)
	for i := range loose {
		loose[i].Cube = wrong(letters(loose[i].Cube))
	}
	for i, p := range places {
		want[i] = loose[p]
	}
	if got := Trim(loose); !slices.Equal(got, want) {
		t.Errorf("Trim(%v): %v, not %v", loose, got, want)
	}
}

func TestP82Trim(t *testing.T) {
	trims(t, nil)
	trims(t, []api.Rule{})
	trims(t, rules("*"), 0)
	trims(t, rules("0", "1"), 0, 1)
	// The same ones, and those that lie within one ahead: next to it, or with others between.
	trims(t, rules("0", "0"), 0)
	trims(t, rules("0", "1", "0", "1", "0"), 0, 1)
	trims(t, rules("0", "01"), 0)
	trims(t, rules("0", "10", "01", "11"), 0, 1, 3)
	trims(t, rules("*", "0", "1", "*", "101"), 0)
	// One that lies behind what lies within it stays.
	trims(t, rules("01", "0"), 0, 1)
	trims(t, rules("01", "0", "00", "*", "1"), 0, 1, 3)
	// Those that have some headers together, but not all of them.
	trims(t, rules("0*", "*1"), 0, 1)
	trims(t, rules("0*1", "0*0", "01*", "*1*", "011"), 0, 1, 2, 3)
	// One that lies within two ahead together, but in neither, stays.
	trims(t, rules("0", "1", "*"), 0, 1, 2)
	trims(t, rules("00", "01", "0"), 0, 1, 2)
	trims(t, rules("00", "01", "10", "11", "0", "1", "*1", "*", "*0"), 0, 1, 2, 3, 4, 5, 6, 7)
	// One that was left out has nothing to say by itself: what lies within it is left out for the one ahead.
	trims(t, rules("0", "01", "011", "0111"), 0)
}

// The action and the order of a rule say nothing of whether it stays.
func TestP82TrimByCubeAlone(t *testing.T) {
	c := right("01")
	l := []api.Rule{{Order: 7, Cube: c, Action: 3}, {Order: 7, Cube: c, Action: 3}, {Order: 1, Cube: c, Action: 3}, {Order: 7, Cube: c, Action: 0}, {Order: -4, Cube: right("0"), Action: 3}, {Order: -9, Cube: right("011"), Action: 5}}
	trims(t, l, 0, 4)
	trims(t, []api.Rule{{Order: 9, Cube: right("1")}, {Order: math.MinInt, Cube: right("0")}, {Order: 9}}, 0, 1, 2)
}

// The bit by which one is apart, or greater, counts wherever it stands.
func TestP82TrimEachBit(t *testing.T) {
	for i := range api.HeadBits {
		front := strings.Repeat("*", i)
		trims(t, rules(front+"0", front+"1", "*", front+"1"), 0, 1, 2)
		whole := cube.Of(ones)
		greater, _ := cube.Loose(whole, i)
		other := cube.Of(head.Flip(ones, i))
		trims(t, []api.Rule{{Cube: whole}, {Cube: other}, {Cube: greater}}, 0, 1, 2)
		trims(t, []api.Rule{{Cube: greater}, {Cube: other}, {Cube: whole}}, 0)
	}
}

func TestP82TrimModel(t *testing.T) {
	n := noise(82)
	kept, left := 0, 0
	for range 3000 {
		var l []api.Rule
		for i := range n.below(12) {
			s := []byte(fill("", 104))
			for _, at := range []int{0, 7, 31, 64, 95, 103} {
				s[at] = "01***"[n.below(5)]
			}
			c := right(string(s))
			if n.below(2) == 0 {
				c = wrong(string(s))
			}
			l = append(l, api.Rule{Order: n.below(9) - i, Cube: c, Action: n.below(3)})
		}
		want := trimOf(l)
		if got := Trim(l); !slices.Equal(got, want) {
			t.Fatalf("Trim(%v): %v, not %v", l, got, want)
		}
		kept += len(want)
		left += len(l) - len(want)
	}
	if kept < 1000 || left < 1000 {
		t.Error("the rules are too much of one kind:", kept, left)
	}
}

func TestP82TrimShares(t *testing.T) {
	room := rules("0", "01", "1", "*", "00", "11")
	before := slices.Clone(room)
	first, second := Trim(room[:4]), Trim(room[:4])
	first = first[:cap(first)]
	for i := range first {
		first[i] = api.Rule{Order: 8, Cube: cube.Of(ones), Action: 8}
	}
	want := []api.Rule{before[0], before[2], before[3]}
	if !slices.Equal(room, before) || !slices.Equal(second, want) || !slices.Equal(Trim(room[:4]), want) {
		t.Error("an answer shares memory:", room, second)
	}
}

// finds holds Look against the place that must be; -1: there is none.
func finds(t *testing.T, l []api.Rule, h api.Header, place int) {
	t.Helper()
	want := append(slices.Clone(l), nothing)[(place+len(l)+1)%(len(l)+1)]
	if got, ok := Look(l, h); got != want || ok != (place >= 0) {
		t.Errorf("Look(%v, %v): %v, %v, not %v", l, h, got, ok, want)
	}
}

func TestP82Look(t *testing.T) {
	zero := api.Header{}
	finds(t, nil, zero, -1)
	finds(t, []api.Rule{}, ones, -1)
	finds(t, rules("1"), zero, -1)
	finds(t, rules("1", "01", "1*1"), zero, -1)
	finds(t, rules("1"), ones, 0)
	finds(t, rules("*"), zero, 0)
	finds(t, rules("1", "0", "*"), zero, 1)
	finds(t, rules("1", "0", "*"), ones, 0)
	finds(t, rules("01", "11", "*", "1", "*"), zero, 2)
	finds(t, rules("0*1", "0", "00", "0"), zero, 1)
	// The first in the list counts, though others have a lesser Order; it is answered as it is.
	l := []api.Rule{{Order: 5, Cube: wrong("1"), Action: 4}, {Order: 9, Cube: wrong("0"), Action: 3}, {Order: -2, Cube: right("00"), Action: 2}, {Order: 0, Action: 1}}
	finds(t, l, zero, 1)
	finds(t, l, ones, 0)
	finds(t, l[2:], ones, 1)
	// A rule that is zero is one of all headers.
	finds(t, []api.Rule{{}}, ones, 0)
	// The whole of the cube counts.
	for i := range api.HeadBits {
		l := []api.Rule{{Order: 1, Cube: cube.Of(head.Flip(ones, i)), Action: 1}, {Order: 2, Cube: cube.Of(ones), Action: 2}}
		finds(t, l, ones, 1)
		finds(t, l, head.Flip(ones, i), 0)
		finds(t, l[1:], head.Flip(ones, i), -1)
	}
}

func TestP82LookModel(t *testing.T) {
	n := noise(821)
	hits, misses := 0, 0
	for range 5000 {
		var l []api.Rule
		for i := range n.below(6) {
			s := []byte(fill("", 104))
			for _, at := range []int{0, 8, 63, 79, 103} {
				s[at] = "01*"[n.below(3)]
			}
			l = append(l, api.Rule{Order: n.below(9), Cube: wrong(string(s)), Action: i})
		}
		before := slices.Clone(l)
		h := api.Header{0: byte(n.below(2) * 255), 1: byte(n.below(2) * 255), 7: byte(n.below(256)), 9: byte(n.below(256)), 12: byte(n.below(256))}
		place := slices.IndexFunc(l, func(x api.Rule) bool { return lies(bits(h), letters(x.Cube)) })
		finds(t, l, h, place)
		if place < 0 {
			misses++
		} else {
			hits++
		}
		if !slices.Equal(l, before) {
			t.Fatal("what was handed in is another")
		}
	}
	if hits < 500 || misses < 500 {
		t.Error("the headers are too much of one kind:", hits, misses)
	}
}

// compiles holds Compile against the table that must be.
func compiles(t *testing.T, l []api.Entry, want []api.Rule) {
	t.Helper()
	if got, e := Compile(l); e != api.OK || !slices.Equal(got, want) {
		t.Errorf("Compile(%v): %v, %d, not %v", l, got, e, want)
	}
}

func tooMany(t *testing.T, l []api.Entry) {
	t.Helper()
	if got, e := Compile(l); e != api.ErrTable || len(got) != 0 {
		t.Errorf("Compile of %d entries: %d rules, %d", len(l), len(got), e)
	}
}

func TestP83Example(t *testing.T) {
	l, _, _ := sense.Read("2 dport 1-2 -> port 1\n5 dport 1 -> port 2\ndefault -> drop")
	compiles(t, l, []api.Rule{
		{Order: 0, Cube: right(atDport("0000000000000001")), Action: 2},
		{Order: 1, Cube: right(atDport("0000000000000010")), Action: 1},
		{Order: 2},
	})
	compiles(t, []api.Entry{{SLow: 5, SHigh: 4, DHigh: 65535, Proto: -1}}, nil)
	compiles(t, nil, nil)
	compiles(t, []api.Entry{}, nil)
	compiles(t, spoilt(), nil)
}

func TestP83Trimmed(t *testing.T) {
	// Of several Default ones the first is left, of the same ones too; behind one of all headers nothing is.
	compiles(t, []api.Entry{rest(0, 3), rest(0, 4)}, []api.Rule{{Action: 3}})
	compiles(t, []api.Entry{rest(0, 3), plain(-1, 4), rest(9, 5), plain(-1, 6)}, []api.Rule{{Action: 4}})
	low := one(func(x *api.Entry) { x.SLow, x.SHigh = 0, 32767 })
	high := one(func(x *api.Entry) { x.SLow, x.SHigh = 32768, 65535 })
	// The Default one lies within the two together, but in neither.
	compiles(t, []api.Entry{rest(0, 3), low, high, low}, []api.Rule{
		{Order: 0, Cube: right(fill("", 64) + "0"), Action: 7},
		{Order: 1, Cube: right(fill("", 64) + "1"), Action: 7},
		{Order: 2, Action: 3},
	})
	compiles(t, append(spoilt(), rest(0, 2)), []api.Rule{{Action: 2}})
}

func TestP83MaxFlat(t *testing.T) {
	for _, l := range [][]api.Entry{ports(512), append([]api.Entry{rest(0, 1)}, ports(511)...)} {
		want := compileOf(l)
		if len(want) != 512 {
			t.Fatal(len(want))
		}
		compiles(t, l, want)
		tooMany(t, append(slices.Clone(l), one(func(x *api.Entry) { x.DLow, x.DHigh = 600, 600 })))
	}
	tooMany(t, ports(513))
	tooMany(t, append(ports(512), rest(0, 1)))
	// Rules that are trimmed don't count: neither those of the same ports nor all of a list behind one of all headers.
	compiles(t, append(ports(512), ports(512)...), compileOf(ports(512)))
	compiles(t, append(append(ports(511), rest(0, 1)), ports(511)...), compileOf(append(ports(511), rest(0, 1))))
	compiles(t, append(ports(2047), plain(6, 3)), []api.Rule{{Action: 3}})
	// Up to MaxExpand: one more is too many, though little of it would be left.
	tooMany(t, append(ports(2048), plain(6, 3)))
	var same []api.Entry
	for range 2048 {
		same = append(same, plain(1, 4))
	}
	compiles(t, same, []api.Rule{{Action: 4}})
	tooMany(t, append(same, plain(1, 4)))
	tooMany(t, ports(2048))
	tooMany(t, ports(4000))
	wide := one(func(x *api.Entry) { x.SLow, x.SHigh, x.DLow, x.DHigh = 1, 65534, 1, 65534 })
	tooMany(t, []api.Entry{wide})
	tooMany(t, []api.Entry{wide, wide, wide})
	compiles(t, []api.Entry{wide, plain(9, 1), wide}, []api.Rule{{Action: 1}})
	tooMany(t, []api.Entry{wide, plain(9, 1), wide, wide})
}

func TestP83Model(t *testing.T) {
	n := noise(83)
	whole, short, many := 0, 0, 0
	for range 500 {
		l := n.entries(n.below(12))
		all, want := expandOf(l), compileOf(l)
		if len(all) > 2048 || len(want) > 512 {
			tooMany(t, l)
			many++
			continue
		}
		compiles(t, l, want)
		if len(want) < len(all) {
			short++
		} else {
			whole++
		}
	}
	if whole < 100 || short < 100 || many < 10 {
		t.Error("the lists are too much of one kind:", whole, short, many)
	}
}

func TestP83Shares(t *testing.T) {
	room := []api.Entry{rest(0, 1), plain(1, 2), ports(9)[8], rest(9, 4), plain(3, 5), plain(4, 6)}
	before := slices.Clone(room)
	first, _ := Compile(room[:3])
	second, _ := Compile(room[:3])
	want := slices.Clone(second)
	first = first[:cap(first)]
	for i := range first {
		first[i] = api.Rule{Order: 8, Cube: cube.Of(ones), Action: 8}
	}
	if third, _ := Compile(room[:3]); !slices.Equal(room, before) || !slices.Equal(second, want) || !slices.Equal(third, want) || len(want) != 2 {
		t.Error("an answer shares memory:", room, second, third)
	}
}
