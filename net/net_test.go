package net

import (
	"math"
	"slices"
	"strconv"
	"strings"
	"testing"

	"milepost/api"
)

func fresh(t *testing.T, nodes int, room int) *Net {
	t.Helper()
	x, e := New(nodes, room)
	if x == nil || e != api.OK {
		t.Fatal("New:", nodes, room, e)
	}
	return x
}

// send sends where there is room.
func send(t *testing.T, x *Net, from int, to int, data string) {
	t.Helper()
	if e := x.Send(from, to, data); e != api.OK {
		t.Fatalf("Send(%d, %d, %q): %d", from, to, data, e)
	}
}

// link is what the letters of a link say, by Peek alone.
func link(x *Net, from int, to int) []string {
	var out []string
	for i := 0; ; i++ {
		s, e := x.Peek(from, to, i)
		if e != api.OK {
			return out
		}
		out = append(out, s)
	}
}

// wantLink asks both calls that tell of a link.
func wantLink(t *testing.T, x *Net, from int, to int, want ...string) {
	t.Helper()
	if got := link(x, from, to); !slices.Equal(got, want) {
		t.Errorf("the link from %d to %d: %q, want %q", from, to, got, want)
	}
	if got := x.Count(from, to); got != len(want) {
		t.Errorf("Count(%d, %d): %d, want %d", from, to, got, len(want))
	}
}

func wantOldest(t *testing.T, x *Net, from int, to int) {
	t.Helper()
	if f, g, ok := x.Oldest(); f != from || g != to || !ok {
		t.Errorf("Oldest: %d %d %v, want %d %d true", f, g, ok, from, to)
	}
}

// wantNone: there is no letter at all.
func wantNone(t *testing.T, x *Net) {
	t.Helper()
	if from, to, ok := x.Oldest(); from != 0 || to != 0 || ok {
		t.Error("Oldest:", from, to, ok)
	}
	if many := x.Total(); many != 0 {
		t.Error("Total:", many)
	}
	for from := range addresses {
		for to := range addresses {
			wantLink(t, x, from, to)
		}
	}
}

// all tells everything that a net has: its links' letters, how many there are, and where the oldest stands.
func all(x *Net) string {
	var out strings.Builder
	for from := -1; from <= addresses; from++ {
		for to := -1; to <= addresses; to++ {
			for _, s := range link(x, from, to) {
				out.WriteString(strconv.Itoa(from) + ">" + strconv.Itoa(to) + strconv.Quote(s) + " ")
			}
			out.WriteString(strconv.Itoa(x.Count(from, to)) + " ")
		}
	}
	from, to, ok := x.Oldest()
	return out.String() + strconv.Itoa(from) + ">" + strconv.Itoa(to) + strconv.FormatBool(ok) + strconv.Itoa(x.Total())
}

// unchanged runs a call that must leave the net as it is.
func unchanged(t *testing.T, x *Net, call func()) {
	t.Helper()
	ahead := all(x)
	call()
	if behind := all(x); behind != ahead {
		t.Errorf("behind a call that changes nothing: %s, not %s", behind, ahead)
	}
}

// five is a net of five letters on the link from 1 to 2, which has no more room, and of one on the link back.
func five(t *testing.T) *Net {
	t.Helper()
	x := fresh(t, 2, 5)
	send(t, x, 2, 1, "back")
	for _, s := range []string{"a", "b", "", "d", "e"} {
		send(t, x, 1, 2, s)
	}
	return x
}

func TestExample(t *testing.T) {
	x := fresh(t, 1, 1)
	if e := x.Send(0, 1, "a"); e != api.OK {
		t.Error(e)
	}
	if e := x.Send(0, 1, "b"); e != api.ErrFull {
		t.Error(e)
	}
	if e := x.Send(1, 0, "b"); e != api.OK {
		t.Error(e)
	}
	wantOldest(t, x, 0, 1)
	if s, e := x.Take(0, 1, 0); s != "a" || e != api.OK {
		t.Error(s, e)
	}
	wantOldest(t, x, 1, 0)
}

func TestNilNet(t *testing.T) {
	var x *Net
	for _, from := range []int{math.MinInt, -1, 0, 1, 7, math.MaxInt} {
		for _, to := range []int{-1, 0, 1, 7} {
			if e := x.Send(from, to, "a"); e != api.ErrNil {
				t.Error("Send:", e)
			}
			if many := x.Count(from, to); many != 0 {
				t.Error("Count:", many)
			}
			for _, i := range []int{-1, 0, 1} {
				if s, e := x.Peek(from, to, i); s != "" || e != api.ErrNil {
					t.Error("Peek:", s, e)
				}
				if s, e := x.Take(from, to, i); s != "" || e != api.ErrNil {
					t.Error("Take:", s, e)
				}
				if e := x.Twice(from, to, i); e != api.ErrNil {
					t.Error("Twice:", e)
				}
			}
		}
	}
	if many := x.Total(); many != 0 {
		t.Error("Total:", many)
	}
	if from, to, ok := x.Oldest(); from != 0 || to != 0 || ok {
		t.Error("Oldest:", from, to, ok)
	}
}

func TestP171New(t *testing.T) {
	for nodes := -2; nodes <= 9; nodes++ {
		for _, room := range []int{-1, 0, 1, 2, 511, 512, 513, 1024} {
			x, e := New(nodes, room)
			if nodes >= 0 && nodes <= 6 && room >= 1 && room <= 512 {
				if x == nil || e != api.OK {
					t.Error("New:", nodes, room, e)
					continue
				}
				wantNone(t, x)
			} else if x != nil || e != api.ErrArg {
				t.Error("New:", nodes, room, x != nil, e)
			}
		}
	}
}

func TestP171NewFarBeyond(t *testing.T) {
	for _, far := range []int{math.MinInt, math.MinInt32, math.MaxInt32, math.MaxInt} {
		for _, args := range [][2]int{{far, 1}, {1, far}, {far, far}} {
			if x, e := New(args[0], args[1]); x != nil || e != api.ErrArg {
				t.Error("New:", args, x != nil, e)
			}
		}
	}
}

// TestP171Links: a net has just the links of its addresses.
func TestP171Links(t *testing.T) {
	for nodes := 0; nodes <= 6; nodes++ {
		x := fresh(t, nodes, 1)
		links := 0
		for from := -2; from <= 9; from++ {
			for to := -2; to <= 9; to++ {
				want := api.ErrArg
				if from >= 0 && from <= nodes && to >= 0 && to <= nodes {
					want = api.OK
					links++
				}
				if e := x.Send(from, to, "a"); e != want {
					t.Error(nodes, ":", from, to, e, "want", want)
				}
			}
		}
		if many := x.Total(); many != links || links != (nodes+1)*(nodes+1) {
			t.Error(nodes, ":", many, links)
		}
	}
}

// TestP171Room: a link has just as much room as was asked for, and each has its own.
func TestP171Room(t *testing.T) {
	for _, room := range []int{1, 2, 3, 100, 511, 512} {
		x := fresh(t, 6, room)
		for _, at := range [][2]int{{0, 0}, {6, 6}, {0, 6}, {6, 0}} {
			for i := range room {
				send(t, x, at[0], at[1], strconv.Itoa(i))
			}
			for range 2 {
				if e := x.Send(at[0], at[1], "one more"); e != api.ErrFull {
					t.Error(room, at, e)
				}
			}
			if many := x.Count(at[0], at[1]); many != room {
				t.Error(room, at, many)
			}
		}
		if many := x.Total(); many != 4*room {
			t.Error(room, many)
		}
	}
}

// TestP172EachLinkAlone: a letter stands on its own link alone, from an address to itself too.
func TestP172EachLinkAlone(t *testing.T) {
	for nodes := 0; nodes <= 6; nodes++ {
		for from := 0; from <= nodes; from++ {
			for to := 0; to <= nodes; to++ {
				x := fresh(t, nodes, 3)
				send(t, x, from, to, "a")
				send(t, x, from, to, "b")
				wantOldest(t, x, from, to)
				if many := x.Total(); many != 2 {
					t.Error("Total:", many)
				}
				for f := 0; f <= nodes; f++ {
					for g := 0; g <= nodes; g++ {
						if f == from && g == to {
							wantLink(t, x, f, g, "a", "b")
						} else {
							wantLink(t, x, f, g)
						}
					}
				}
			}
		}
	}
}

// TestP172AllLinks: letters on all links at once, and none of them touches another one.
func TestP172AllLinks(t *testing.T) {
	x := fresh(t, 6, 3)
	says := func(from int, to int, i int) string {
		return strconv.Itoa(from) + strconv.Itoa(to) + strconv.Itoa(i)
	}
	for i := range 3 {
		for from := 6; from >= 0; from-- {
			for to := range 7 {
				send(t, x, from, to, says(from, to, i))
			}
		}
	}
	if many := x.Total(); many != 147 {
		t.Error("Total:", many)
	}
	wantOldest(t, x, 6, 0)
	if s, e := x.Take(3, 4, 1); s != "341" || e != api.OK {
		t.Error(s, e)
	}
	if s, e := x.Take(4, 3, 0); s != "430" || e != api.OK {
		t.Error(s, e)
	}
	if e := x.Twice(4, 3, 0); e != api.OK {
		t.Error(e)
	}
	for from := range 7 {
		for to := range 7 {
			switch [2]int{from, to} {
			case [2]int{3, 4}:
				wantLink(t, x, from, to, "340", "342")
			case [2]int{4, 3}:
				wantLink(t, x, from, to, "431", "432", "431")
			default:
				wantLink(t, x, from, to, says(from, to, 0), says(from, to, 1), says(from, to, 2))
			}
		}
	}
	if many := x.Total(); many != 146 {
		t.Error("Total:", many)
	}
}

// TestP172SendNowhere: addresses below 0 and above nodes, each with one that is there too; on a full net as well.
func TestP172SendNowhere(t *testing.T) {
	for nodes := 0; nodes <= 6; nodes++ {
		x := fresh(t, nodes, 1)
		for range 2 {
			for _, wrong := range []int{math.MinInt, -7, -1, nodes + 1, nodes + 2, 7, 49, math.MaxInt} {
				for _, at := range [][2]int{{wrong, 0}, {0, wrong}, {wrong, nodes}, {nodes, wrong}, {wrong, wrong}} {
					unchanged(t, x, func() {
						if e := x.Send(at[0], at[1], "a"); e != api.ErrArg {
							t.Error("Send:", nodes, at, e)
						}
						if many := x.Count(at[0], at[1]); many != 0 {
							t.Error("Count:", nodes, at, many)
						}
					})
				}
			}
			for from := 0; from <= nodes; from++ {
				for to := 0; to <= nodes; to++ {
					x.Send(from, to, "full")
				}
			}
		}
	}
}

// TestP172SendFull: a full link is left as it was, whichever letters come, till one is gone.
func TestP172SendFull(t *testing.T) {
	x := five(t)
	for _, s := range []string{"", "a", "f"} {
		unchanged(t, x, func() {
			if e := x.Send(1, 2, s); e != api.ErrFull {
				t.Error("Send:", s, e)
			}
		})
	}
	send(t, x, 2, 1, "another link has room")
	if s, e := x.Take(1, 2, 2); s != "" || e != api.OK {
		t.Error(s, e)
	}
	send(t, x, 1, 2, "f")
	wantLink(t, x, 1, 2, "a", "b", "d", "e", "f")
	if e := x.Send(1, 2, "g"); e != api.ErrFull {
		t.Error(e)
	}
}

// TestP172Data: a letter says what was sent, byte by byte; no bytes are a letter too.
func TestP172Data(t *testing.T) {
	var bytes []byte
	for i := range 256 {
		bytes = append(bytes, byte(i))
	}
	says := []string{"", "\x00", "\x00\x00", "\xff", "\xc3", "é", "a\nb", string(bytes), "", strings.Repeat("x", 1<<16), ""}
	x := fresh(t, 0, len(says))
	for i, s := range says {
		send(t, x, 0, 0, s)
		if many := x.Count(0, 0); many != i+1 {
			t.Error("Count:", i, many)
		}
	}
	wantLink(t, x, 0, 0, says...)
	wantOldest(t, x, 0, 0)
	for _, want := range says {
		if s, e := x.Take(0, 0, 0); s != want || e != api.OK {
			t.Errorf("%q %d, want %q", s, e, want)
		}
	}
	wantNone(t, x)
}

// TestP172Total: letters on several links, as they come and go.
func TestP172Total(t *testing.T) {
	x := fresh(t, 3, 2)
	for i, at := range [][2]int{{0, 0}, {3, 3}, {0, 3}, {3, 0}, {1, 2}, {2, 1}, {0, 0}, {3, 3}} {
		send(t, x, at[0], at[1], "a")
		if many := x.Total(); many != i+1 {
			t.Error("Total:", i, many)
		}
	}
	x.Send(0, 0, "no room")
	x.Send(4, 0, "no link")
	x.Peek(0, 0, 0)
	x.Take(0, 0, 2)
	if many := x.Total(); many != 8 {
		t.Error("Total:", many)
	}
	x.Take(3, 3, 1)
	if many := x.Total(); many != 7 {
		t.Error("Total:", many)
	}
	x.Twice(2, 1, 0)
	if many := x.Total(); many != 8 || x.Count(2, 1) != 2 || x.Count(3, 3) != 1 {
		t.Error("Total:", many)
	}
}
