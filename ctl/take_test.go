package ctl

import (
	"math"
	"slices"
	"testing"

	"milepost/api"
	"milepost/cube"
)

// under is a controller at 2 with a present epoch and a prepared one, of which nobody has anything.
func under(t *testing.T) *Ctl {
	t.Helper()
	c := ready(t, setup(), halves)
	accepts(t, c, ports(2), 1)
	quiet(c)
	return c
}

// dull are messages of the other kinds.
func dull() []api.Msg {
	return []api.Msg{
		{Kind: api.MsgPart, Inc: life, Epoch: 2, Of: 3, Cube: cube.All(), One: 1},
		{Kind: api.MsgMod, Inc: life, Epoch: 2, At: 1, Of: 3, Cube: cube.All()},
		{Kind: api.MsgLead, Inc: life, Sent: 2, Use: 2},
		{Kind: api.MsgRedirect, Inc: life, Seq: 1, Epoch: 2},
		{Kind: api.MsgInstall, Inc: life, Seq: 1, Epoch: 2, Cube: cube.All()},
	}
}

func wantStale(t *testing.T, c *Ctl, from int, bytes string) {
	t.Helper()
	c.Take(from, bytes, 2)
	wantNotes(t, c, stale())
	wantSent(t, c)
}

func TestP224NoMessage(t *testing.T) {
	right := data(t, alive(life))
	all := []string{"", "x", right[:len(right)-1], right + "\x00", "\x00" + right, string(make([]byte, 100))}
	for _, from := range []int{math.MinInt, -1, 0, 1, 2, 3, 4, math.MaxInt} {
		c := under(t)
		for _, bytes := range all {
			wantStale(t, c, from, bytes)
		}
	}
	for _, bytes := range all {
		same(t, "no message", func() *Ctl { return under(t) }, 2, func(c *Ctl) { c.Take(1, bytes, 9) })
	}
}

func TestP224From(t *testing.T) {
	for _, m := range []api.Msg{alive(life), alive(life + 1), ack(life, 2, 3)} {
		for _, from := range []int{math.MinInt, -1, 0, 4, 6, 7, math.MaxInt} {
			wantStale(t, under(t), from, data(t, m))
			same(t, "from nobody", func() *Ctl { return under(t) }, 2, func(c *Ctl) { take(t, c, from, m, 9) })
		}
		for _, from := range []int{1, 2, 3} {
			c := under(t)
			take(t, c, from, m, 2)
			wantNotes(t, c)
			wantSent(t, c)
		}
	}
}

func TestP224Others(t *testing.T) {
	for _, m := range dull() {
		for _, from := range []int{0, 1, 2, 3, 4} {
			wantStale(t, under(t), from, data(t, m))
		}
		same(t, "another kind", func() *Ctl { return under(t) }, 2, func(c *Ctl) { take(t, c, 1, m, 9) })
	}
}

func TestP224Lives(t *testing.T) {
	lost := api.Msg{Kind: api.MsgBeat, Inc: life - 1, Use: 9, Epoch: 2, At: 9, Load: 9}
	never := lost
	never.Inc = 0
	for _, m := range []api.Msg{lost, never} {
		wantStale(t, under(t), 1, data(t, m))
		same(t, "a lesser life", func() *Ctl { return under(t) }, 2, func(c *Ctl) { take(t, c, 1, m, 9) })
	}
	for _, inc := range []int{0, life - 1, life + 1, api.MaxNumber} {
		wantStale(t, under(t), 1, data(t, ack(inc, 2, 3)))
		same(t, "an ack of another life", func() *Ctl { return under(t) }, 2, func(c *Ctl) { take(t, c, 1, ack(inc, 2, 3), 9) })
	}
	// Of a switch in no life yet no ack counts.
	c := fresh(t, setup())
	wantStale(t, c, 1, data(t, ack(0, 1, 1)))
	wantStale(t, c, 1, data(t, ack(1, 1, 1)))
	wantStale(t, c, 1, data(t, alive(0)))
	c = under(t)
	for _, inc := range []int{life, life, life + 1, api.MaxNumber, api.MaxNumber} {
		take(t, c, 3, alive(inc), 2)
		take(t, c, 3, ack(inc, 2, 1), 2)
	}
	wantNotes(t, c)
	wantStale(t, c, 3, data(t, alive(life)))
	c.Tick(3)
	for _, l := range c.Letters() {
		if m := decoded(t, l); l.To == 3 && m.Inc != api.MaxNumber {
			t.Error(m)
		}
	}
}

// sentAt tells of one switch which items of which epochs are sent in a silent tick.
func sentAt(t *testing.T, c *Ctl, to int) [][2]int {
	t.Helper()
	c.Tick(3)
	var out [][2]int
	for _, l := range c.Letters() {
		if m := decoded(t, l); l.To == to {
			out = append(out, [2]int{m.Epoch, m.At})
		}
	}
	return out
}

// In another life nothing is there: all is sent anew, and what had been told of a load counts no more.
func TestP224Anew(t *testing.T) {
	c := under(t)
	take(t, c, 1, loaded(life, 6), 2)
	take(t, c, 1, ack(life, 2, 6), 2)
	take(t, c, 1, loaded(life+1, 1), 2)
	// 6, then half of it and all of the new load.
	wantBits(t, c, []float64{4, 0})
	if got := sentAt(t, c, 1); !slices.Equal(got, [][2]int{{1, 0}, {1, 1}, {1, 2}, {1, 3}}) {
		t.Error(got)
	}
	take(t, c, 1, loaded(life+1, 1), 2)
	wantBits(t, c, []float64{2, 0})
}

// How many items there are: fewer than ahead say nothing; acks and beats say it alike.
func TestP224Items(t *testing.T) {
	told := func(beat bool, epoch int, at int) api.Msg {
		if beat {
			return api.Msg{Kind: api.MsgBeat, Inc: life, Epoch: epoch, At: at}
		}
		return ack(life, epoch, at)
	}
	for _, beat := range []bool{false, true} {
		for _, again := range []bool{false, true} {
			c := under(t)
			if got := sentAt(t, c, 1); !slices.Equal(got, [][2]int{{2, 0}, {2, 1}, {2, 2}, {2, 3}}) {
				t.Error(got)
			}
			take(t, c, 1, told(beat, 2, 2), 2)
			if got := sentAt(t, c, 1); !slices.Equal(got, [][2]int{{2, 2}, {2, 3}, {2, 4}, {2, 5}}) {
				t.Error(got)
			}
			take(t, c, 1, told(again, 2, 1), 2)
			take(t, c, 1, told(again, 3, 6), 2)
			take(t, c, 1, told(again, 1, 2), 2)
			if got := sentAt(t, c, 1); !slices.Equal(got, [][2]int{{2, 2}, {2, 3}, {2, 4}, {2, 5}}) {
				t.Error(got)
			}
			take(t, c, 1, told(again, 2, 5), 2)
			if got := sentAt(t, c, 1); !slices.Equal(got, [][2]int{{2, 5}}) {
				t.Error(got)
			}
			wantNotes(t, c)
		}
	}
}

// A beat says that a switch is there, an ack doesn't.
func TestP224Heard(t *testing.T) {
	c := ready(t, setup(), halves)
	for n := 1; n <= 3; n++ {
		take(t, c, n, ack(life, 1, 4), 5)
	}
	c.Tick(6)
	wantSent(t, c)
	beats(t, c, 6, 1, 2)
	take(t, c, 3, ack(life, 1, 4), 6)
	c.Tick(6)
	wantSent(t, c, posted{1, leadTo(6, 1, 1)}, posted{2, leadTo(6, 1, 1)})
	// What is heard at an earlier time was heard then.
	beats(t, c, 3, 1)
	c.Tick(8)
	wantSent(t, c, posted{1, leadTo(8, 1, 1)}, posted{2, leadTo(8, 1, 1)})
	beats(t, c, 8, 2, 3)
	c.Tick(9)
	wantNotes(t, c, planned(2, 1))
}

// The epoch in use: a lesser one than ahead says nothing.
func TestP224Use(t *testing.T) {
	for _, c := range []struct {
		row []int
		end bool
	}{
		{[]int{2}, true}, {[]int{3}, true}, {[]int{1}, false}, {[]int{0}, false}, {[]int{2, 1}, true}, {[]int{9, 0}, true}, {[]int{0, 1, 2}, true}, {[]int{api.MaxNumber}, true},
	} {
		for last := 1; last <= 3; last++ {
			x := underTwo(t)
			for n := 1; n <= 3; n++ {
				if n != last {
					take(t, x, n, uses(life, 2), 3)
				}
			}
			for _, use := range c.row {
				take(t, x, last, uses(life, use), 3)
			}
			x.Tick(3)
			if p, _ := x.Present(); (p.Number == 2) != c.end {
				t.Error(c, last, p.Number)
			}
		}
	}
}

func TestP224Weights(t *testing.T) {
	for _, c := range []struct {
		old   float64
		loads []int
		want  float64
	}{
		{0, []int{0}, 0},
		{0, []int{5}, 5},
		{8, []int{5}, 9},
		{8, []int{5, 5}, 4.5},
		{8, []int{5, 6}, 5.5},
		{8, []int{5, 4}, 4.5},
		{8, []int{5, 0, 5}, 7.25},
		{8, []int{0, 0, 0}, 1},
		{-8, []int{3}, 3},
		{math.Copysign(0, -1), []int{0}, 0},
		{math.NaN(), []int{0}, 0},
		{math.NaN(), []int{3, 4}, 2.5},
		{math.Inf(1), []int{0}, math.MaxFloat64 / 2},
		{math.Inf(-1), []int{2}, 2},
		{math.MaxFloat64, []int{7}, math.MaxFloat64 / 2},
		{1, []int{api.MaxNumber}, 0.5 + api.MaxNumber},
		{1, []int{api.MaxNumber, 0, api.MaxNumber}, 0.125 + 1.25*api.MaxNumber},
	} {
		for n := 1; n <= 5; n++ {
			x := fresh(t, six())
			want := []float64{-1, math.Inf(1), 3, math.NaN(), 0.5}
			want[n-1] = c.old
			for i, w := range want {
				x.Hint(i+1, w)
			}
			for _, load := range c.loads {
				take(t, x, n, loaded(life, load), 0)
			}
			want[n-1] = c.want
			wantBits(t, x, want)
			wantNotes(t, x)
		}
	}
}

// A switch that is no authority weighs nothing; what is stale, and acks, change no weight.
func TestP224NoWeight(t *testing.T) {
	c := fresh(t, six())
	for n := 1; n <= 5; n++ {
		c.Hint(n, 8)
	}
	take(t, c, 6, loaded(life, 9), 0)
	take(t, c, 6, loaded(life+1, 9), 0)
	wantBits(t, c, []float64{8, 8, 8, 8, 8})
	take(t, c, 2, loaded(life, 0), 0)
	wantBits(t, c, []float64{8, 4, 8, 8, 8})
	take(t, c, 2, loaded(life-1, 9), 0)
	take(t, c, 2, ack(life, 1, 1), 0)
	take(t, c, 2, ack(life-1, 1, 1), 0)
	c.Take(2, "x", 0)
	wantBits(t, c, []float64{8, 4, 8, 8, 8})
	// Each authority has a load of its own.
	take(t, c, 2, loaded(life, 3), 0)
	take(t, c, 3, loaded(life, 2), 0)
	wantBits(t, c, []float64{8, 5, 6, 8, 8})
	take(t, c, 2, loaded(life, 3), 0)
	take(t, c, 3, loaded(life, 3), 0)
	wantBits(t, c, []float64{8, 2.5, 4, 8, 8})
	// A hint stands for all that was ahead.
	c.Hint(3, 100)
	take(t, c, 3, loaded(life, 4), 0)
	wantBits(t, c, []float64{8, 2.5, 51, 8, 8})
}
