package node

import (
	"math"
	"testing"

	"milepost/api"
	"milepost/cube"
)

// wantLease: an injection is dropped, since the node may not act, and nothing else comes of it.
func wantLease(t *testing.T, n *Node, h api.Header, now int) {
	t.Helper()
	unchanged(t, n, now, func() {
		t.Helper()
		n.Inject(77, h, now)
		wantNotes(t, n, dropped(77, api.WhyLease))
		wantLetters(t, n)
	})
}

// TestP202NoLead: without a lead nothing is emitted, whatever the banks have.
func TestP202NoLead(t *testing.T) {
	n := fresh(t, setup())
	for _, now := range far() {
		wantLease(t, n, some("1"), now)
	}
	give(t, n, 0, part(1, 0, 2, front("0"), 2, 3), mod(1, 1, 2, 0, front("1"), 6))
	for _, now := range far() {
		wantLease(t, n, some("0"), now)
		wantLease(t, n, some("1"), now)
		wantLease(t, n, some("01"), now)
	}
	// A lead for an epoch that isn't full gives no leave.
	give(t, n, 0, part(2, 0, 2, cube.All(), 2, 3), lead(0, 2, 0))
	wantLease(t, n, some("0"), 0)
}

// TestP202Lease: a lead of just Lease ticks ago is too old, one of a tick less isn't; behind the next one it is as ahead.
func TestP202Lease(t *testing.T) {
	for _, lease := range []int{9, 10, 200} {
		n := ready(t, with(func(s *api.Setup) { s.Lease = lease }), 100)
		for _, now := range []int{-1, 0, 1, 99, 100, 101, 100 + lease - 1} {
			n.Inject(now, some("10"), now)
			wantNotes(t, n, emitted(now, 6))
			wantLetters(t, n)
		}
		for _, now := range []int{100 + lease, 101 + lease, 1000, api.MaxTicks, math.MaxInt} {
			for _, bits := range []string{"00", "010", "011", "10", "11"} {
				wantLease(t, n, some(bits), now)
			}
		}
		give(t, n, 0, lead(102, 1, 0))
		n.Inject(3, some("10"), 101+lease)
		wantNotes(t, n, emitted(3, 6))
		wantLease(t, n, some("10"), 102+lease)
	}
}

// TestP202LateTimes: a now above MaxTicks counts as that, for the lease, the cache and those that wait.
func TestP202LateTimes(t *testing.T) {
	const most = api.MaxTicks
	n := ready(t, setup(), most-9)
	for i, now := range []int{most - 1, most, most + 1, math.MaxInt} {
		n.Inject(i, some("10"), now)
		wantNotes(t, n, emitted(i, 6))
	}
	n.Inject(4, some("00"), most+1000)
	n.Inject(5, some("00"), math.MaxInt)
	wantWaiting(t, n, api.Asked{Seq: 1, Index: 4, Head: some("00"), Sent: 1, Due: most + 5}, api.Asked{Seq: 2, Index: 5, Head: some("00"), Sent: 1, Due: most + 5})
	n = ready(t, setup(), most-10)
	wantLease(t, n, some("10"), most)
	wantLease(t, n, some("10"), most+1)
	wantLease(t, n, some("10"), math.MaxInt)
	n = ready(t, setup(), 0)
	n.Inject(6, some("00"), math.MinInt)
	wantWaiting(t, n, api.Asked{Seq: 1, Index: 6, Head: some("00"), Sent: 1, Due: 5})
}

// TestP202Cache: what the cache says is emitted at once, and counts.
func TestP202Cache(t *testing.T) {
	n := ready(t, setup(), 0)
	take(t, n, 2, install(0, 1, 5, front("001")), 1)
	n.Notes()
	slot := api.Slot{Bank: api.Cache, Epoch: 1, Cube: front("001"), Action: 5, Born: 1, Used: 1}
	wantSlots(t, n, api.Cache, slot)
	for i, now := range []int{2, 7, 4} {
		n.Inject(10+i, some("0011"), now)
		wantNotes(t, n, emitted(10+i, 5))
		slot.Used, slot.Count = now, i+1
		wantSlots(t, n, api.Cache, slot)
	}
	wantLetters(t, n)
	wantWaiting(t, n)
	// The other headers of that partition are asked for still.
	n.Inject(20, some("000"), 4)
	wantNotes(t, n, redirected(20, 1, 2))
	wantSlots(t, n, api.Cache, slot)
}

// TestP202Drop: drop is an action like any other: it is emitted as 0.
func TestP202Drop(t *testing.T) {
	n := fresh(t, setup())
	give(t, n, 0, part(1, 0, 2, cube.All(), 1, 2), mod(1, 1, 2, 0, front("1"), 0), lead(0, 1, 0))
	n.Inject(1, some("1"), 0)
	take(t, n, 2, install(0, 1, 0, front("0")), 0)
	n.Inject(2, some("0"), 0)
	wantNotes(t, n, emitted(1, 0), cached(api.NoteLearn, 1, 0, front("0")), emitted(2, 0))
	wantLetters(t, n)
}

// TestP202Auth: of the authority's own rules the one with the least Order speaks.
func TestP202Auth(t *testing.T) {
	n := fresh(t, setup())
	give(t, n, 0,
		part(1, 0, 5, cube.All(), 1, 4),
		mod(1, 1, 5, 8, cube.All(), 1),
		mod(1, 2, 5, 3, front("01"), 2),
		mod(1, 3, 5, 3, front("0"), 3),
		mod(1, 4, 5, 5, front("00"), 4),
		lead(0, 1, 0))
	for i, x := range []struct {
		bits   string
		action int
	}{{"1", 1}, {"01", 2}, {"00", 3}, {"000", 3}, {"011", 2}} {
		n.Inject(i, some(x.bits), 0)
		wantNotes(t, n, emitted(i, x.action))
	}
	counts := []int{}
	for _, s := range n.Slots(api.Auth) {
		counts = append(counts, s.Count)
	}
	if len(counts) != 4 || counts[0] != 1 || counts[1] != 2 || counts[2] != 2 || counts[3] != 0 {
		t.Error(counts)
	}
	wantLetters(t, n)
	wantWaiting(t, n)
}

// TestP202Banks: the cache is asked ahead of the rules, these ahead of the partitions.
func TestP202Banks(t *testing.T) {
	n := fresh(t, setup())
	give(t, n, 0, part(1, 0, 2, cube.All(), 1, 2), mod(1, 1, 2, 0, front("1"), 6), lead(0, 1, 0))
	take(t, n, 2, install(0, 1, 5, front("11")), 0)
	n.Notes()
	n.Inject(1, some("11"), 0)
	n.Inject(2, some("10"), 0)
	n.Inject(3, some("0"), 0)
	wantNotes(t, n, emitted(1, 5), emitted(2, 6), redirected(3, 1, 1))
	if c, a, p := n.Slots(api.Cache), n.Slots(api.Auth), n.Slots(api.Part); c[0].Count != 1 || a[0].Count != 1 || p[0].Count != 1 {
		t.Error(c, a, p)
	}
}

// TestP202None: a header of which no slot speaks is dropped.
func TestP202None(t *testing.T) {
	n := ready(t, setup(), 0)
	unchanged(t, n, 0, func() {
		n.Inject(5, some("11"), 0)
		wantNotes(t, n, dropped(5, api.WhyNone))
		wantLetters(t, n)
	})
}

// TestP202Epoch: slots of an epoch that isn't in use don't speak.
func TestP202Epoch(t *testing.T) {
	n := fresh(t, setup())
	give(t, n, 0, part(1, 0, 1, front("0"), 1, 2), lead(0, 1, 1), floored(part(2, 0, 2, cube.All(), 2, 1), 1), floored(mod(2, 1, 2, 0, front("11"), 6), 1))
	n.Inject(1, some("11"), 0)
	n.Inject(2, some("10"), 0)
	n.Inject(3, some("0"), 0)
	wantNotes(t, n, dropped(1, api.WhyNone), dropped(2, api.WhyNone), redirected(3, 1, 1))
	wantLetters(t, n, redirect(t, 1, 1, 1, some("0")))
	give(t, n, 0, lead(0, 2, 1))
	n.Inject(4, some("11"), 0)
	n.Inject(5, some("10"), 0)
	n.Inject(6, some("0"), 0)
	wantNotes(t, n, emitted(4, 6), redirected(5, 2, 2), redirected(6, 2, 2))
	wantLetters(t, n, redirect(t, 2, 2, 2, some("10")), redirect(t, 2, 3, 2, some("0")))
}

// TestP202Redirect: it waits, and the first redirect goes to One, or to Two where there is no One, or nowhere.
func TestP202Redirect(t *testing.T) {
	n := ready(t, setup(), 0)
	n.Inject(11, some("00"), 1)
	wantNotes(t, n, redirected(11, 1, 2))
	wantLetters(t, n, redirect(t, 2, 1, 1, some("00")))
	n.Inject(12, some("011"), 2)
	wantNotes(t, n, redirected(12, 1, 3))
	wantLetters(t, n, redirect(t, 3, 2, 1, some("011")))
	n.Inject(13, some("010"), 3)
	wantNothing(t, n)
	wantWaiting(t, n,
		api.Asked{Seq: 1, Index: 11, Head: some("00"), Sent: 1, Due: 6},
		api.Asked{Seq: 2, Index: 12, Head: some("011"), Sent: 1, Due: 7},
		api.Asked{Seq: 3, Index: 13, Head: some("010"), Sent: 1, Due: 8})
	for i, s := range n.Slots(api.Part) {
		if s.Count != 1 {
			t.Error(i, s)
		}
	}
	wantStatus(t, n, 3, api.Status{Up: true, Inc: life, Use: 1, Live: true, Top: 1, Auth: 1, Part: 3, Wait: 3})
}

// TestP202Full: as many may wait as the setup says; one more is dropped, though the partition's slot was asked for it.
func TestP202Full(t *testing.T) {
	for _, room := range []int{1, 2, 3, api.MaxWait} {
		n := ready(t, with(func(s *api.Setup) { s.Wait, s.Queue = room, 512 }), 0)
		for i := range room {
			n.Inject(i, some("00"), 0)
			wantNotes(t, n, redirected(i, 1, 2))
			wantLetters(t, n, redirect(t, 2, i+1, 1, some("00")))
		}
		ahead := n.Waiting()
		for _, bits := range []string{"00", "011", "010"} {
			n.Inject(99, some(bits), 0)
			wantNotes(t, n, dropped(99, api.WhyFull))
			wantLetters(t, n)
		}
		wantWaiting(t, n, ahead...)
		if l := n.Slots(api.Part); l[0].Count != room+1 || l[1].Count != 1 || l[2].Count != 1 {
			t.Error(l)
		}
		// What needn't wait is emitted still, what nobody has is dropped for that.
		n.Inject(98, some("10"), 0)
		n.Inject(97, some("11"), 0)
		wantNotes(t, n, emitted(98, 6), dropped(97, api.WhyNone))
		// One that was refused took no number.
		take(t, n, 2, install(1, 1, 5, front("0000")), 0)
		n.Notes()
		n.Inject(96, some("00111"), 0)
		wantNotes(t, n, redirected(96, 1, 2))
		wantLetters(t, n, redirect(t, 2, room+1, 1, some("00111")))
	}
}

// TestP202Index: an injection's number may be any, and headers too.
func TestP202Index(t *testing.T) {
	n := ready(t, with(func(s *api.Setup) { s.Wait, s.Queue = len(far()), 512 }), 0)
	for i, index := range far() {
		h := api.Header{byte(i), 1, 2, 3, 4, 5, 6, 7, 8, 9, 10, 11, byte(255 - i)}
		n.Inject(index, h, 0)
		wantNotes(t, n, redirected(index, 1, 2))
		wantLetters(t, n, redirect(t, 2, i+1, 1, h))
		if l := n.Waiting(); len(l) != i+1 || l[i] != (api.Asked{Seq: i + 1, Index: index, Head: h, Sent: 1, Due: 5}) {
			t.Error(l)
		}
		n.Inject(index, some("10"), 0)
		n.Inject(index, some("11"), 0)
		n.Inject(index, some("0"), 99)
		wantNotes(t, n, emitted(index, 6), dropped(index, api.WhyNone), dropped(index, api.WhyLease))
	}
}

// TestP202Authorities: a partition's numbers are taken as they are: this switch itself, and ones beyond the switches.
func TestP202Authorities(t *testing.T) {
	for _, one := range []int{1, number, 6, 7, 99, api.MaxNumber} {
		n := fresh(t, setup())
		give(t, n, 0, part(1, 0, 1, cube.All(), one, 0), lead(0, 1, 0))
		n.Inject(1, some("1"), 0)
		wantNotes(t, n, redirected(1, 1, one))
		wantLetters(t, n, redirect(t, one, 1, 1, some("1")))
	}
}
