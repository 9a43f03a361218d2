package ctl

import (
	"fmt"
	"math"
	"slices"
	"testing"

	"milepost/api"
	"milepost/msg"
	"milepost/plan"
)

func decoded(t *testing.T, l api.Letter) api.Msg {
	t.Helper()
	m, e := msg.Decode([]byte(l.Data))
	if e != api.OK || l.From != 0 {
		t.Fatal("no message:", l)
	}
	return m
}

func leadTo(sent int, use int, floor int) api.Msg {
	return api.Msg{Kind: api.MsgLead, Inc: life, Sent: sent, Use: use, Floor: floor}
}

// partTo and ruleTo are items of an epoch's leaf.
func partTo(epoch int, floor int, at int, of int, l api.Leaf) api.Msg {
	return api.Msg{Kind: api.MsgPart, Inc: life, Epoch: epoch, Floor: floor, At: at, Of: of, One: l.One, Two: l.Two, Cube: l.Cube}
}

func ruleTo(epoch int, floor int, at int, of int, r api.Rule) api.Msg {
	return api.Msg{Kind: api.MsgMod, Inc: life, Epoch: epoch, Floor: floor, At: at, Of: of, Order: r.Order, Action: r.Action, Cube: r.Cube}
}

// goes lets time go on silently, and tells what was noted.
func goes(c *Ctl, now int) []api.Note {
	c.Tick(now)
	c.Letters()
	return c.Notes()
}

func wantGoes(t *testing.T, c *Ctl, now int, want ...api.Note) {
	t.Helper()
	if got := goes(c, now); !slices.Equal(got, want) {
		t.Errorf("at %d: %+v, want %+v", now, got, want)
	}
}

// both is the pair of 1 and 2, twice.
var both = []api.Pair{{One: 1, Two: 2}, {One: 1, Two: 2}}

func TestP225MendsNothing(t *testing.T) {
	c := fresh(t, setup())
	for now := range 20 {
		wantGoes(t, c, now)
		if now == 3 {
			beats(t, c, now, 1, 2, 3)
		}
	}
	// All are in; then switch 3, which holds nothing, is out.
	c = ready(t, setup(), halves)
	wantGoes(t, c, 3)
	wantGoes(t, c, 5)
	beats(t, c, 5, 1, 2)
	wantGoes(t, c, 10)
	wantNonePrepared(t, c)
}

// Nobody is in: plan's error.
func TestP225MendsForNobody(t *testing.T) {
	c := ready(t, setup(), halves)
	wantGoes(t, c, 7)
	take(t, c, 3, alive(life), 7)
	wantGoes(t, c, 8)
	wantNonePrepared(t, c)
	wantPresent(t, c, 1, 1)
	same(t, "a tick for nobody", func() *Ctl { return ready(t, setup(), halves) }, 9, func(c *Ctl) { c.Tick(7) })
}

// One falls, and comes back.
func TestP225MendsPresent(t *testing.T) {
	for n := 1; n <= 2; n++ {
		c := ready(t, setup(), halves)
		beats(t, c, 4, n, 3)
		wantGoes(t, c, 5)
		wantGoes(t, c, 7, planned(2, 1))
		wantPrepared(t, c, 2, 1, api.Pair{One: n}, api.Pair{One: n})
		acks(t, c, n, 3)
		wantGoes(t, c, 9, turned(2, 1), done(2, 1))
		// No Two, and one is in.
		wantGoes(t, c, 9)
		beats(t, c, 9, 3-n)
		wantGoes(t, c, 9, planned(3, 1))
		wantPrepared(t, c, 3, 1, both...)
		wantPresent(t, c, 2, 1)
	}
}

// No Two, and the One isn't in, another one is.
func TestP225MendsAlone(t *testing.T) {
	c := fresh(t, setup())
	beats(t, c, 0, 2, 3)
	accepts(t, c, halves, 0)
	acks(t, c, 2, 3)
	wantGoes(t, c, 1, accepted(1), planned(1, 1), turned(1, 1), committed(1), done(1, 1))
	beats(t, c, 5, 1, 3)
	wantGoes(t, c, 5, planned(2, 1))
	wantPrepared(t, c, 2, 1, both...)
	c = fresh(t, setup())
	beats(t, c, 0, 2, 3)
	accepts(t, c, halves, 0)
	acks(t, c, 2, 3)
	goes(c, 1)
	beats(t, c, 6, 1, 3)
	wantGoes(t, c, 7, planned(2, 1))
	wantPrepared(t, c, 2, 1, api.Pair{One: 1}, api.Pair{One: 1})
}

// Each leaf's One and Two count, others don't.
func TestP225MendsHolders(t *testing.T) {
	for out := 1; out <= 6; out++ {
		c := ready(t, six(), halves)
		if x, _ := c.Present(); !slices.Equal(pairsOf(x), []api.Pair{{One: 1, Two: 2}, {One: 3, Two: 4}}) {
			t.Fatal(pairsOf(x))
		}
		for n := 1; n <= 6; n++ {
			if n != out {
				beats(t, c, 4, n)
			}
		}
		c.Hint(2, 7)
		wantGoes(t, c, 5)
		if out >= 5 {
			wantGoes(t, c, 6)
			continue
		}
		wantGoes(t, c, 6, planned(2, 1))
		x, _ := c.Prepared()
		var live []int
		for n := 1; n <= 5; n++ {
			if n != out {
				live = append(live, n)
			}
		}
		want, _ := plan.Make(c.present.table, six(), live, []float64{0, 7, 0, 0, 0})
		if fmt.Sprint(x.Leaves) != fmt.Sprint(want) {
			t.Error(out, x.Leaves, want)
		}
	}
}

// Weights alone mend nothing: leaves would come out as others, but no leaf has lost anybody.
func TestP225MendsNoWeights(t *testing.T) {
	c := ready(t, setup(), halves)
	c.Hint(1, 9)
	wantGoes(t, c, 3)
	c.Hint(2, 99)
	wantGoes(t, c, 5)
	wantNonePrepared(t, c)
}

// A prepared one is mended if a leaf has nobody, not if it has one still.
func TestP225MendsPrepared(t *testing.T) {
	for _, out := range [][]int{nil, {1}, {2}, {3}, {4}, {1, 3}, {2, 4}, {1, 2}, {3, 4}, {1, 2, 3}, {1, 2, 3, 4}} {
		c := fresh(t, six())
		beats(t, c, 0, 1, 2, 3, 4, 5, 6)
		accepts(t, c, halves, 0)
		wantPrepared(t, c, 1, 1, api.Pair{One: 1, Two: 2}, api.Pair{One: 3, Two: 4})
		quiet(c)
		var live []int
		for n := 1; n <= 6; n++ {
			if slices.Contains(out, n) {
				continue
			}
			beats(t, c, 4, n)
			if n <= 5 {
				live = append(live, n)
			}
		}
		wantGoes(t, c, 5)
		if lost := slices.Contains(out, 1) && slices.Contains(out, 2) || slices.Contains(out, 3) && slices.Contains(out, 4); !lost {
			wantGoes(t, c, 6)
			continue
		}
		wantGoes(t, c, 6, planned(2, 1))
		x, _ := c.Prepared()
		want, _ := plan.Make(c.prepared.table, six(), live, nil)
		if fmt.Sprint(x.Leaves) != fmt.Sprint(want) || c.Accepted() != 1 {
			t.Error(out, x.Leaves, want)
		}
		wantPresent(t, c, 0, 0)
	}
}

// A leaf without a Two has nobody as soon as its One isn't in; and nothing is done while nobody is.
func TestP225MendsPreparedAlone(t *testing.T) {
	c := fresh(t, setup())
	beats(t, c, 0, 2, 3)
	accepts(t, c, halves, 0)
	wantPrepared(t, c, 1, 1, api.Pair{One: 2}, api.Pair{One: 2})
	quiet(c)
	// That it might have a Two now is no reason to prepare it anew.
	beats(t, c, 5, 1)
	wantGoes(t, c, 5)
	wantGoes(t, c, 6, planned(2, 1))
	wantPrepared(t, c, 2, 1, api.Pair{One: 1}, api.Pair{One: 1})
	wantGoes(t, c, 11)
	wantPrepared(t, c, 2, 1, api.Pair{One: 1}, api.Pair{One: 1})
	beats(t, c, 20, 2)
	wantGoes(t, c, 20, planned(3, 1))
	wantPrepared(t, c, 3, 1, api.Pair{One: 2}, api.Pair{One: 2})
}

// While one is prepared the present one isn't mended; the prepared one keeps its own index and table.
func TestP225MendsPreparedFirst(t *testing.T) {
	c := ready(t, setup(), halves)
	beats(t, c, 4, 2, 3)
	accepts(t, c, "default -> port 9", 4)
	wantPrepared(t, c, 2, 2, api.Pair{One: 1, Two: 2})
	quiet(c)
	wantGoes(t, c, 7)
	take(t, c, 1, alive(life), 8)
	wantGoes(t, c, 10)
	wantGoes(t, c, 14)
	take(t, c, 2, alive(life), 20)
	wantGoes(t, c, 20)
	wantPrepared(t, c, 2, 2, api.Pair{One: 1, Two: 2})
	c = ready(t, setup(), halves)
	beats(t, c, 4, 2, 3)
	accepts(t, c, "default -> port 9", 6)
	wantPrepared(t, c, 2, 2, api.Pair{One: 2})
	quiet(c)
	take(t, c, 1, alive(life), 10)
	wantGoes(t, c, 10, planned(3, 2))
	wantPrepared(t, c, 3, 2, api.Pair{One: 1})
	if x, _ := c.Prepared(); len(x.Leaves) != 1 || x.Leaves[0].Rules[0].Action != 9 {
		t.Error(x)
	}
}

// One that is turned isn't mended, whoever falls.
func TestP225MendsNoTurned(t *testing.T) {
	for _, in := range [][]int{nil, {1}, {2}, {3}, {1, 2, 3}} {
		c := underTwo(t)
		beats(t, c, 8, in...)
		wantGoes(t, c, 8)
		if x, _ := c.Prepared(); x.Number != 2 || !c.Turned() || !slices.Equal(pairsOf(x), both) {
			t.Error(x)
		}
		wantPresent(t, c, 1, 1)
		// The leads of epoch 1 were sent at 2. As the present one it is mended at the next tick.
		wantGoes(t, c, 9, committed(2), done(2, 2))
		if len(in) == 1 && in[0] < 3 {
			wantGoes(t, c, 9, planned(3, 2))
		} else {
			wantGoes(t, c, 9)
		}
	}
}

// Nor if others are in by whom its leaves could be had.
func TestP225MendsNoTurnedLeaf(t *testing.T) {
	c := ready(t, six(), halves)
	c.Tick(2)
	accepts(t, c, ports(2), 2)
	wantPrepared(t, c, 2, 2, api.Pair{One: 1, Two: 2}, api.Pair{One: 3, Two: 4})
	acks(t, c, 1, 2, 3, 4, 5, 6)
	c.Tick(3)
	quiet(c)
	beats(t, c, 4, 3, 4, 5)
	for now := 5; now <= 8; now++ {
		wantGoes(t, c, now)
		if x, ok := c.Prepared(); !ok || x.Number != 2 || !c.Turned() {
			t.Error(now, x)
		}
	}
	wantGoes(t, c, 9, committed(2), done(2, 2))
	wantGoes(t, c, 9, planned(3, 2))
}

// What is mended is not turned in that tick, unless all have what it needs already.
func TestP225MendsAndTurns(t *testing.T) {
	for _, ahead := range []bool{false, true} {
		c := ready(t, setup(), halves)
		beats(t, c, 4, 2, 3)
		if ahead {
			take(t, c, 2, ack(life, 2, 4), 4)
			take(t, c, 3, ack(life, 2, 2), 4)
			wantGoes(t, c, 7, planned(2, 1), turned(2, 1), done(2, 1))
			wantPresent(t, c, 2, 1)
		} else {
			take(t, c, 2, ack(life, 2, 4), 4)
			wantGoes(t, c, 7, planned(2, 1))
		}
	}
}

// Each that is in must have all items, or more.
func TestP225Turns(t *testing.T) {
	need := []int{4, 4, 2}
	for who := range 3 {
		for more := -2; more <= 2; more++ {
			c := fresh(t, setup())
			beats(t, c, 0, 1, 2, 3)
			accepts(t, c, halves, 0)
			quiet(c)
			for n := range 3 {
				at := need[n]
				if n == who {
					at += more
				}
				take(t, c, n+1, ack(life, 1, at), 0)
			}
			if more < 0 {
				wantGoes(t, c, 1)
				wantPrepared(t, c, 1, 1, both...)
				wantPresent(t, c, 0, 0)
				beats(t, c, 3, 1, 2, 3)
				// As soon as it has them.
				take(t, c, who+1, ack(life, 1, need[who]), 3)
			}
			wantGoes(t, c, 4, turned(1, 1), committed(1), done(1, 1))
			wantPresent(t, c, 1, 1)
		}
	}
}

// Who isn't in needn't have anything.
func TestP225TurnsWithout(t *testing.T) {
	for out := 1; out <= 3; out++ {
		c := fresh(t, setup())
		beats(t, c, 0, 1, 2, 3)
		accepts(t, c, halves, 0)
		quiet(c)
		for n := 1; n <= 3; n++ {
			if n != out {
				beats(t, c, 3, n)
				acks(t, c, n)
			}
		}
		wantGoes(t, c, 5)
		wantGoes(t, c, 6, turned(1, 1), committed(1), done(1, 1))
		// Nor who was never there.
		c = fresh(t, setup())
		accepts(t, c, halves, 0)
		quiet(c)
		for n := 1; n <= 3; n++ {
			if n != out {
				beats(t, c, 0, n)
				acks(t, c, n)
			}
		}
		wantGoes(t, c, 1, turned(1, 1), committed(1), done(1, 1))
	}
}

// Without a holder that is in it isn't turned, though all that are in have it.
func TestP225TurnsForNobody(t *testing.T) {
	c := fresh(t, setup())
	accepts(t, c, halves, 0)
	quiet(c)
	wantGoes(t, c, 0)
	beats(t, c, 0, 3)
	acks(t, c, 3)
	wantGoes(t, c, 1)
	wantPrepared(t, c, 1, 1, both...)
	wantPresent(t, c, 0, 0)
	beats(t, c, 1, 2)
	wantGoes(t, c, 1)
	acks(t, c, 2)
	wantGoes(t, c, 2, turned(1, 1), committed(1), done(1, 1))
}

// A lead of a lesser epoch holds for Lease ticks: until then it is turned, but not the present one.
func TestP225Safe(t *testing.T) {
	c := underTwo(t)
	for now := 3; now <= 8; now++ {
		beats(t, c, now, 1, 2, 3)
		wantGoes(t, c, now)
		wantPresent(t, c, 1, 1)
		if x, ok := c.Prepared(); !ok || x.Number != 2 || !c.Turned() {
			t.Error(now, x)
		}
	}
	wantGoes(t, c, 9, committed(2), done(2, 2))
	wantPresent(t, c, 2, 2)
	wantNonePrepared(t, c)
	// Also of a switch that isn't in any more.
	c = underTwo(t)
	take(t, c, 1, uses(life, 2), 4)
	take(t, c, 2, uses(life, 2), 4)
	wantGoes(t, c, 8)
	wantGoes(t, c, 9, committed(2), done(2, 2))
	// Not of one that is in another life.
	c = underTwo(t)
	take(t, c, 1, uses(life, 2), 4)
	take(t, c, 2, uses(life, 2), 4)
	wantGoes(t, c, 5)
	take(t, c, 3, alive(life+1), 5)
	wantGoes(t, c, 5, committed(2), done(2, 2))
}

// Leads of the epoch itself, and of none, are no lesser ones.
func TestP225SafeAtOnce(t *testing.T) {
	c := ready(t, setup(), halves)
	if c.Cut(1) != api.OK {
		t.Error("no cut")
	}
	acks(t, c, 1, 2, 3)
	// At 2 it is turned ahead of the leads, so nobody is told to use 1.
	c.Tick(2)
	wantNotes(t, c, planned(2, 1), turned(2, 1), done(2, 1))
	wantSent(t, c, posted{1, leadTo(2, 2, 2)}, posted{2, leadTo(2, 2, 2)}, posted{3, leadTo(2, 2, 2)})
}

// The last lead of the lesser epoch counts; while it is turned no more are sent.
func TestP225SafeLast(t *testing.T) {
	c := ready(t, setup(), halves)
	for now := 2; now <= 12; now++ {
		beats(t, c, now, 1, 2, 3)
		c.Tick(now)
	}
	if c.Cut(12) != api.OK {
		t.Error("no cut")
	}
	acks(t, c, 1, 2, 3)
	quiet(c)
	wantGoes(t, c, 13, turned(2, 1))
	for now := 14; now <= 18; now++ {
		beats(t, c, now, 1, 2, 3)
		wantGoes(t, c, now)
	}
	wantGoes(t, c, 19, done(2, 1))
}

// Once one is present, what was told of other epochs is forgotten, and what of this one isn't.
func TestP225Keeps(t *testing.T) {
	for _, of := range []int{0, 1, 2, 3, api.MaxNumber} {
		c := fresh(t, setup())
		beats(t, c, 0, 1, 2, 3)
		accepts(t, c, halves, 0)
		take(t, c, 3, ack(life, of, 2), 0)
		acks(t, c, 1, 2)
		take(t, c, 3, ack(life, 1, 2), 0)
		goes(c, 1)
		wantPresent(t, c, 1, 1)
		if got := sentAt(t, c, 3); got != nil {
			t.Error("of the present one:", got)
		}
		c.Cut(3)
		if got := sentAt(t, c, 3); !slices.Equal(got, [][2]int{{2, 0}, {2, 1}}) {
			t.Error(of, got)
		}
	}
	// Till then it counts.
	c := fresh(t, setup())
	beats(t, c, 0, 1, 2, 3)
	take(t, c, 3, ack(life, 1, 1), 0)
	accepts(t, c, halves, 0)
	if got := sentAt(t, c, 3); !slices.Equal(got, [][2]int{{1, 1}}) {
		t.Error(got)
	}
}

// All fields, a floor, and two epochs.
func TestP225Sends(t *testing.T) {
	c := fresh(t, with(func(s *api.Setup) { s.Window, s.Queue = 64, 512 }))
	beats(t, c, 0, 1, 2)
	accepts(t, c, halves, 0)
	acks(t, c, 1, 2)
	goes(c, 1)
	wantPresent(t, c, 1, 1)
	one, _ := c.Present()
	// Switch 3 comes late; then there is a second epoch.
	beats(t, c, 2, 3)
	c.Tick(2)
	wantSent(t, c,
		posted{1, leadTo(2, 1, 1)}, posted{2, leadTo(2, 1, 1)},
		posted{3, partTo(1, 1, 0, 2, one.Leaves[0])}, posted{3, partTo(1, 1, 1, 2, one.Leaves[1])}, posted{3, leadTo(2, 1, 1)})
	accepts(t, c, ports(2), 2)
	two, _ := c.Prepared()
	if len(two.Leaves) != 2 {
		t.Fatal(two)
	}
	var want []posted
	for n := 1; n <= 3; n++ {
		if n == 3 {
			want = append(want, posted{3, partTo(1, 1, 0, 2, one.Leaves[0])}, posted{3, partTo(1, 1, 1, 2, one.Leaves[1])})
		}
		of := len(plan.Items(two.Leaves, n))
		at := 0
		for _, l := range two.Leaves {
			want = append(want, posted{n, partTo(2, 1, at, of, l)})
			at++
		}
		for _, l := range two.Leaves {
			for _, r := range l.Rules {
				if n < 3 {
					want = append(want, posted{n, ruleTo(2, 1, at, of, r)})
					at++
				}
			}
		}
		if at != of {
			t.Error(n, at, of)
		}
	}
	c.Tick(3)
	wantSent(t, c, want...)
	// Once more, with leads behind each one's items.
	for n := 3; n >= 1; n-- {
		behind := slices.IndexFunc(want, func(p posted) bool { return p.to > n })
		if behind < 0 {
			behind = len(want)
		}
		want = slices.Insert(want, behind, posted{n, leadTo(4, 1, 1)})
	}
	c.Tick(4)
	wantSent(t, c, want...)
}

// Ahead of the first present epoch the floor is 0, and there are no leads.
func TestP225SendsFirst(t *testing.T) {
	c := fresh(t, setup())
	take(t, c, 2, alive(9), 0)
	accepts(t, c, "default -> port 7", 0)
	x, _ := c.Prepared()
	a, b := partTo(1, 0, 0, 2, x.Leaves[0]), ruleTo(1, 0, 1, 2, x.Leaves[0].Rules[0])
	a.Inc, b.Inc = 9, 9
	if b.Action != 7 || a.One != 2 || a.Two != 0 {
		t.Error(a, b)
	}
	c.Tick(2)
	wantSent(t, c, posted{2, a}, posted{2, b})
	take(t, c, 2, ack(9, 1, 1), 0)
	c.Tick(2)
	wantSent(t, c, posted{2, b})
	take(t, c, 2, ack(9, 1, 2), 0)
	// It is turned and the present one now; who has all of it is sent leads alone.
	c.Tick(2)
	m := leadTo(2, 1, 1)
	m.Inc = 9
	wantSent(t, c, posted{2, m})
	// Who has more than there is needs nothing either.
	take(t, c, 2, ack(9, 1, 77), 0)
	c.Tick(3)
	wantSent(t, c)
}

// window is how many letters a switch is sent at a silent tick, of each of two epochs.
func window(t *testing.T, c *Ctl, to int) [2]int {
	t.Helper()
	var out [2]int
	for i, x := range sentAt(t, c, to) {
		if x[0] == 2 {
			out[1]++
		} else if out[1] > 0 {
			t.Error("of the present one behind the prepared one:", i, x)
		} else {
			out[0]++
		}
	}
	return out
}

// Window in all, of both epochs, and for each switch by itself.
func TestP225Window(t *testing.T) {
	for size := 1; size <= 12; size++ {
		for has := 0; has <= 5; has++ {
			c := fresh(t, with(func(s *api.Setup) { s.Window = size }))
			beats(t, c, 0, 1, 3)
			accepts(t, c, halves, 0)
			acks(t, c, 1, 3)
			goes(c, 1)
			wantPresent(t, c, 1, 1)
			beats(t, c, 1, 2)
			accepts(t, c, "1 src 0.0.0.0/1 -> port 3\ndefault -> port 4", 1)
			if x, _ := c.Prepared(); len(plan.Items(x.Leaves, 1)) != 4 || len(plan.Items(x.Leaves, 2)) != 4 || len(plan.Items(x.Leaves, 3)) != 2 {
				t.Fatal(x)
			}
			take(t, c, 2, ack(life, 2, has), 1)
			one := min(size, 2)
			if got, want := window(t, c, 2), [2]int{one, max(0, min(size-one, 4-has))}; got != want {
				t.Error(size, has, got, want)
			}
			if got, want := window(t, c, 1), [2]int{0, min(size, 4)}; got != want {
				t.Error(size, has, got, want)
			}
			if got, want := window(t, c, 3), [2]int{0, min(size, 2)}; got != want {
				t.Error(size, has, got, want)
			}
		}
	}
}

// Leads don't count for the window.
func TestP225WindowLeads(t *testing.T) {
	c := ready(t, with(func(s *api.Setup) { s.Window = 1 }), halves)
	c.Cut(2)
	x, _ := c.Prepared()
	c.Tick(2)
	var want []posted
	for n := 1; n <= 3; n++ {
		want = append(want, posted{n, partTo(2, 1, 0, 4-n/3*2, x.Leaves[0])}, posted{n, leadTo(2, 1, 1)})
	}
	wantSent(t, c, want...)
}

// Who isn't in is sent nothing.
func TestP225SendsWhoIsIn(t *testing.T) {
	c := fresh(t, with(func(s *api.Setup) { s.Beat = 1 }))
	beats(t, c, 0, 1, 2, 3)
	accepts(t, c, halves, 0)
	acks(t, c, 1, 2, 3)
	goes(c, 1)
	c.Cut(1)
	beats(t, c, 3, 1)
	to := func(now int) []int {
		c.Tick(now)
		var out []int
		for _, l := range c.Letters() {
			out = append(out, l.To)
		}
		return slices.Compact(out)
	}
	if got := to(5); !slices.Equal(got, []int{1, 2, 3}) {
		t.Error(got)
	}
	if got := to(6); !slices.Equal(got, []int{1}) {
		t.Error(got)
	}
	beats(t, c, 7, 3)
	if got := to(8); !slices.Equal(got, []int{1, 3}) {
		t.Error(got)
	}
	if got := to(9); !slices.Equal(got, []int{3}) {
		t.Error(got)
	}
	if got := to(13); got != nil {
		t.Error(got)
	}
}

// Leads go out just where Beat divides now, which has its bounds.
func TestP225Beats(t *testing.T) {
	for beat := 1; beat <= 20; beat++ {
		c := ready(t, with(func(s *api.Setup) { s.Beat, s.Lease, s.Lost = beat, 60, 200 }), halves)
		for now := range 100 {
			c.Tick(now)
			if now%beat == 0 {
				wantSent(t, c, posted{1, leadTo(now, 1, 1)}, posted{2, leadTo(now, 1, 1)}, posted{3, leadTo(now, 1, 1)})
			} else {
				wantSent(t, c)
			}
		}
		for _, now := range []int{-1, -beat, 1 - beat, math.MinInt} {
			c.Tick(now)
			wantSent(t, c, posted{1, leadTo(0, 1, 1)}, posted{2, leadTo(0, 1, 1)}, posted{3, leadTo(0, 1, 1)})
		}
		beats(t, c, math.MaxInt, 1, 2, 3)
		for _, now := range []int{api.MaxTicks, api.MaxTicks + 1, api.MaxTicks + beat, math.MaxInt} {
			c.Tick(now)
			if api.MaxTicks%beat == 0 {
				end := leadTo(api.MaxTicks, 1, 1)
				wantSent(t, c, posted{1, end}, posted{2, end}, posted{3, end})
			} else {
				wantSent(t, c)
			}
		}
		before := (api.MaxTicks - 1) / beat * beat
		c.Tick(before)
		wantSent(t, c, posted{1, leadTo(before, 1, 1)}, posted{2, leadTo(before, 1, 1)}, posted{3, leadTo(before, 1, 1)})
	}
}

// Which epoch a lead tells to use, with which floor.
func TestP225Leads(t *testing.T) {
	leads := func(c *Ctl, now int) []api.Msg {
		c.Tick(now)
		var out []api.Msg
		for _, l := range c.Letters() {
			if m := decoded(t, l); m.Kind == api.MsgLead {
				out = append(out, m)
			}
		}
		return out
	}
	c := fresh(t, setup())
	beats(t, c, 0, 1, 2, 3)
	if got := leads(c, 0); got != nil {
		t.Error(got)
	}
	accepts(t, c, halves, 0)
	if got := leads(c, 0); got != nil {
		t.Error("of one that isn't turned:", got)
	}
	acks(t, c, 1, 2, 3)
	three := func(m api.Msg) []api.Msg { return []api.Msg{m, m, m} }
	if got := leads(c, 2); !slices.Equal(got, three(leadTo(2, 1, 1))) {
		t.Error(got)
	}
	c.Cut(2)
	if got := leads(c, 4); !slices.Equal(got, three(leadTo(4, 1, 1))) {
		t.Error(got)
	}
	beats(t, c, 4, 1, 2, 3)
	acks(t, c, 1, 2, 3)
	if got := leads(c, 6); !slices.Equal(got, three(leadTo(6, 2, 1))) {
		t.Error(got)
	}
	if got := leads(c, 7); got != nil {
		t.Error(got)
	}
	if got := leads(c, 8); !slices.Equal(got, three(leadTo(8, 2, 1))) {
		t.Error(got)
	}
	beats(t, c, 9, 1, 2, 3)
	if got := leads(c, 12); !slices.Equal(got, three(leadTo(12, 2, 2))) {
		t.Error(got)
	}
}

// A lead counts from when it was sent, for the switch to which it went.
func TestP225Led(t *testing.T) {
	for who := 1; who <= 3; who++ {
		c := ready(t, with(func(s *api.Setup) { s.Lost = 7 }), halves)
		// All that are in by 8 are told to use 1.
		for n := 1; n <= 3; n++ {
			if n == who {
				beats(t, c, 5, n)
			}
		}
		c.Tick(8)
		quiet(c)
		beats(t, c, 8, 1, 2, 3)
		if _, ok := c.Prepared(); ok != (who < 3) {
			t.Fatal(who, ok)
		}
		if who == 3 && c.Cut(8) != api.OK {
			t.Error("no cut")
		}
		acks(t, c, 1, 2, 3)
		quiet(c)
		wantGoes(t, c, 9, turned(2, 1))
		wantGoes(t, c, 14)
		wantGoes(t, c, 15, done(2, 1))
	}
}

// At the last of all ticks time stands: leases don't end there.
func TestP225End(t *testing.T) {
	c := ready(t, with(func(s *api.Setup) { s.Beat, s.Lease, s.Lost = 1, 3, 3 }), halves)
	beats(t, c, api.MaxTicks-1, 1, 2, 3)
	c.Tick(api.MaxTicks - 1)
	if c.Cut(api.MaxTicks) != api.OK {
		t.Error("no cut")
	}
	acks(t, c, 1, 2, 3)
	quiet(c)
	wantGoes(t, c, math.MaxInt, turned(2, 1))
	for range 5 {
		wantGoes(t, c, math.MaxInt)
	}
	for n := 1; n <= 3; n++ {
		take(t, c, n, uses(life, 2), math.MaxInt)
	}
	wantGoes(t, c, api.MaxTicks, done(2, 1))
}
