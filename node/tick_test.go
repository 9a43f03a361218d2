package node

import (
	"math"
	"testing"

	"milepost/api"
	"milepost/cube"
)

// quiet is a setup whose beats come seldom: at times that 20 divides.
func quiet(change func(s *api.Setup)) api.Setup {
	return with(func(s *api.Setup) {
		s.Beat, s.Lease, s.Lost = 20, 100, 60
		change(s)
	})
}

func asIs(s *api.Setup) {}

// TestP204Beat: a beat whenever Beat divides now, and only then.
func TestP204Beat(t *testing.T) {
	for _, every := range []int{1, 2, 3, 7, 20} {
		n := fresh(t, with(func(s *api.Setup) { s.Beat, s.Lease, s.Lost = every, 60, 60 }))
		for now := range 70 {
			n.Tick(now)
			wantNotes(t, n)
			if now%every == 0 {
				wantLetters(t, n, letter(t, 0, beat(0, 0, 0, 0)))
			}
			wantLetters(t, n)
		}
	}
}

// TestP204BeatTimes: at times of any size it is now itself that is divided.
func TestP204BeatTimes(t *testing.T) {
	for _, every := range []int{1, 2, 3, 10, 16, 19} {
		n := fresh(t, with(func(s *api.Setup) { s.Beat, s.Lease, s.Lost = every, 60, 60 }))
		for _, now := range append(far(), -3, -20, 3, 16, 19, 20, 1<<50) {
			n.Tick(now)
			if now/every*every == now {
				wantLetters(t, n, letter(t, 0, beat(0, 0, 0, 0)))
			}
			wantNothing(t, n)
		}
	}
}

// TestP204BeatSays: what is in use, the top, how many items of it there are, how many redirects were answered.
func TestP204BeatSays(t *testing.T) {
	n := beside(t)
	says := func(want api.Msg) {
		t.Helper()
		n.Letters()
		n.Tick(0)
		wantLetters(t, n, letter(t, 0, want))
	}
	says(beat(3, 5, 2, 0))
	take(t, n, 1, ask(9, 9, 5, some("1")), 0)
	says(beat(3, 5, 2, 1))
	give(t, n, 0, part(8, 0, 3, front("0"), 1, 2))
	says(beat(3, 8, 1, 1))
	give(t, n, 0, part(8, 1, 3, front("1"), 1, 2), mod(8, 2, 3, 0, cube.All(), 2))
	says(beat(3, 8, 3, 1))
	give(t, n, 0, lead(0, 8, 8))
	says(beat(8, 8, 3, 1))
	give(t, n, 0, lead(0, 8, 9))
	says(beat(0, 9, 0, 1))
	// A lease that is over changes nothing of what is in use.
	n = beside(t)
	n.Tick(999)
	wantLetters(t, n, letter(t, 0, beat(3, 5, 2, 0)))
}

// TestP204Age: slots of the cache that are too old leave, in their order, each told with its own.
func TestP204Age(t *testing.T) {
	n := ready(t, quiet(func(s *api.Setup) { s.Cache, s.Idle, s.Hard = 9, 10, 30 }), 0)
	for i, bits := range []string{"0000", "0001", "0010", "0011"} {
		take(t, n, 1, install(0, 1, i+1, front(bits)), i)
	}
	n.Notes()
	n.Inject(1, some("0001"), 5)
	n.Notes()
	n.Tick(9)
	wantNothing(t, n)
	n.Tick(12)
	wantNotes(t, n, cached(api.NoteAge, 1, 1, front("0000")), cached(api.NoteAge, 1, 3, front("0010")))
	n.Tick(13)
	wantNotes(t, n, cached(api.NoteAge, 1, 4, front("0011")))
	for now := 14; now < 31; now++ {
		n.Inject(now, some("0001"), now)
		n.Tick(now)
		wantNotes(t, n, emitted(now, 2))
	}
	n.Letters()
	n.Inject(31, some("0001"), 31)
	n.Tick(31)
	wantNotes(t, n, emitted(31, 2), cached(api.NoteAge, 1, 2, front("0001")))
	wantLetters(t, n)
	n.Inject(32, some("0001"), 31)
	wantNotes(t, n, redirected(32, 1, 2))
}

// TestP204AgeEpochs: slots of two epochs, told with their own; age asks for no lease.
func TestP204AgeEpochs(t *testing.T) {
	n := fresh(t, with(func(s *api.Setup) { s.Idle = 40 }))
	give(t, n, 0, part(1, 0, 1, cube.All(), 1, 2), lead(0, 1, 1))
	take(t, n, 1, install(0, 1, 3, front("0")), 0)
	give(t, n, 0, part(2, 0, 1, cube.All(), 1, 2), lead(0, 2, 1))
	take(t, n, 1, install(0, 2, 4, front("1")), 1)
	n.Notes()
	n.Tick(41)
	wantNotes(t, n, cached(api.NoteAge, 1, 3, front("0")), cached(api.NoteAge, 2, 4, front("1")))
	wantLetters(t, n)
}

// TestP204Turns: redirects go to One and to Two by turns, and then it is given up.
func TestP204Turns(t *testing.T) {
	n := ready(t, quiet(func(s *api.Setup) { s.Tries, s.Time = 3, 7 }), 0)
	h := some("00")
	n.Inject(5, h, 1)
	wantLetters(t, n, redirect(t, 2, 1, 1, h))
	n.Notes()
	for i, to := range []int{3, 2, 3} {
		due := 8 + 7*i
		n.Tick(due - 1)
		wantNothing(t, n)
		n.Tick(due)
		wantNotes(t, n, redirected(5, 1, to))
		wantLetters(t, n, redirect(t, to, 1, 1, h))
		wantWaiting(t, n, api.Asked{Seq: 1, Index: 5, Head: h, Sent: i + 2, Due: due + 7})
	}
	n.Tick(28)
	wantNothing(t, n)
	n.Tick(29)
	wantNotes(t, n, dropped(5, api.WhyLate))
	wantLetters(t, n)
	wantWaiting(t, n)
	n.Tick(36)
	wantNothing(t, n)
	wantSlots(t, n, api.Auth, api.Slot{Bank: api.Auth, Epoch: 1, At: 3, Order: 9, Cube: front("10"), Action: 6})
	if l := n.Slots(api.Part); l[0].Count != 4 {
		t.Error(l[0])
	}
}

// TestP204Alone: where only one authority is there, each redirect goes to that one; where none is, nothing is sent, but tries are counted.
func TestP204Alone(t *testing.T) {
	n := fresh(t, quiet(asIs))
	give(t, n, 0, part(1, 0, 3, front("00"), 2, 0), part(1, 1, 3, front("01"), 0, 3), part(1, 2, 3, front("1"), 0, 0), lead(0, 1, 0))
	n.Inject(1, some("00"), 0)
	n.Inject(2, some("01"), 0)
	n.Inject(3, some("1"), 0)
	wantNotes(t, n, redirected(1, 1, 2), redirected(2, 1, 3))
	wantLetters(t, n, redirect(t, 2, 1, 1, some("00")), redirect(t, 3, 2, 1, some("01")))
	for i, now := range []int{5, 10} {
		n.Tick(now)
		wantNotes(t, n, redirected(1, 1, 2), redirected(2, 1, 3))
		wantLetters(t, n, redirect(t, 2, 1, 1, some("00")), redirect(t, 3, 2, 1, some("01")))
		if l := n.Waiting(); len(l) != 3 || l[2] != (api.Asked{Seq: 3, Index: 3, Head: some("1"), Sent: i + 2, Due: now + 5}) {
			t.Error(l)
		}
	}
	n.Tick(15)
	wantNotes(t, n, dropped(1, api.WhyLate), dropped(2, api.WhyLate), dropped(3, api.WhyLate))
	wantNothing(t, n)
}

// TestP204Cache: one that is due is emitted, if the cache has its header by then, and waits no more.
func TestP204Cache(t *testing.T) {
	n := ready(t, quiet(asIs), 0)
	n.Inject(1, some("000"), 0)
	n.Inject(2, some("001"), 0)
	n.Inject(3, some("0001"), 1)
	n.Letters()
	n.Notes()
	take(t, n, 2, install(2, 1, 8, front("00")), 2)
	wantNotes(t, n, cached(api.NoteLearn, 1, 8, front("00")), emitted(2, 8))
	wantWaiting(t, n, api.Asked{Seq: 1, Index: 1, Head: some("000"), Sent: 1, Due: 5}, api.Asked{Seq: 3, Index: 3, Head: some("0001"), Sent: 1, Due: 6})
	n.Tick(5)
	wantNotes(t, n, emitted(1, 8))
	wantLetters(t, n)
	wantSlots(t, n, api.Cache, api.Slot{Bank: api.Cache, Epoch: 1, Cube: front("00"), Action: 8, Born: 2, Used: 5, Count: 1})
	wantWaiting(t, n, api.Asked{Seq: 3, Index: 3, Head: some("0001"), Sent: 1, Due: 6})
	n.Tick(6)
	wantNotes(t, n, emitted(3, 8))
	wantWaiting(t, n)
	// The answers that come late find nobody.
	take(t, n, 2, install(1, 1, 8, front("00")), 6)
	take(t, n, 2, install(3, 1, 8, front("00")), 6)
	wantNotes(t, n, cached(api.NoteLearn, 1, 8, front("00")), cached(api.NoteLearn, 1, 8, front("00")))
}

// TestP204Auth: likewise by the switch's own rules, of the epoch that came into use meanwhile.
func TestP204Auth(t *testing.T) {
	n := ready(t, quiet(asIs), 0)
	n.Inject(1, some("00"), 0)
	n.Inject(2, some("011"), 0)
	give(t, n, 0, lead(1, 1, 1), floored(part(2, 0, 2, cube.All(), 5, 6), 1), mod(2, 1, 2, 3, front("00"), 4), lead(1, 2, 1))
	n.Letters()
	n.Notes()
	n.Tick(5)
	wantNotes(t, n, emitted(1, 4), redirected(2, 2, 6))
	wantLetters(t, n, redirect(t, 6, 2, 2, some("011")))
	wantWaiting(t, n, api.Asked{Seq: 2, Index: 2, Head: some("011"), Sent: 2, Due: 10})
	if l := n.Slots(api.Auth); l[1].Count != 1 || l[0].Count != 0 {
		t.Error(l)
	}
}

// TestP204None: one of whose header no slot speaks any more waits on, and is given up in its time.
func TestP204None(t *testing.T) {
	n := ready(t, quiet(asIs), 0)
	n.Inject(1, some("00"), 0)
	n.Letters()
	n.Notes()
	give(t, n, 0, part(2, 0, 1, front("1"), 2, 3), lead(0, 2, 0))
	n.Tick(5)
	wantNothing(t, n)
	wantWaiting(t, n, api.Asked{Seq: 1, Index: 1, Head: some("00"), Sent: 2, Due: 10})
	n.Tick(10)
	wantNothing(t, n)
	wantWaiting(t, n, api.Asked{Seq: 1, Index: 1, Head: some("00"), Sent: 3, Due: 15})
	n.Tick(15)
	wantNotes(t, n, dropped(1, api.WhyLate))
	wantWaiting(t, n)
}

// TestP204NoLease: while the node may not act nobody is asked for again or emitted, and no slot counts; but tries go on, and who is over is dropped.
func TestP204NoLease(t *testing.T) {
	n := ready(t, with(func(s *api.Setup) { s.Beat, s.Lease = 3, 9 }), 0)
	n.Inject(1, some("00"), 4)
	n.Inject(2, some("001"), 4)
	n.Letters()
	take(t, n, 2, install(0, 1, 8, front("001")), 4)
	n.Notes()
	part := n.Slots(api.Part)
	cache := n.Slots(api.Cache)
	n.Tick(10)
	wantNothing(t, n)
	wantWaiting(t, n,
		api.Asked{Seq: 1, Index: 1, Head: some("00"), Sent: 2, Due: 15},
		api.Asked{Seq: 2, Index: 2, Head: some("001"), Sent: 2, Due: 15})
	wantSlots(t, n, api.Part, part...)
	wantSlots(t, n, api.Cache, cache...)
	// Under a new lease the next try is sent, to One: it is the third.
	give(t, n, 14, lead(14, 1, 0))
	n.Tick(16)
	wantNotes(t, n, redirected(1, 1, 2), emitted(2, 8))
	wantLetters(t, n, redirect(t, 2, 1, 1, some("00")))
	n.Tick(25)
	wantNotes(t, n, dropped(1, api.WhyLate))
	wantWaiting(t, n)
	wantLetters(t, n)
}

// TestP204LeaseEdge: at the last tick of a lease it is asked for again, at the next one it isn't.
func TestP204LeaseEdge(t *testing.T) {
	for _, x := range []struct{ now, many int }{{9, 1}, {10, 0}} {
		n := ready(t, setup(), 0)
		n.Inject(1, some("00"), 1)
		n.Notes()
		n.Tick(x.now)
		if l := n.Notes(); len(l) != x.many {
			t.Error(x.now, l)
		}
		if l := n.Waiting(); len(l) != 1 || l[0].Sent != 2 {
			t.Error(x.now, l)
		}
	}
}

// TestP204Order: notes of age, of those that are asked for again, by Seq, of those that are given up, by Seq; letters of redirects, then the beat.
func TestP204Order(t *testing.T) {
	n := ready(t, with(func(s *api.Setup) {
		s.Wait, s.Tries, s.Time, s.Beat, s.Lease, s.Lost, s.Idle, s.Cache = 8, 1, 5, 10, 30, 30, 8, 3
	}), 0)
	n.Inject(1, some("00"), 0)
	n.Inject(2, some("011"), 5)
	n.Inject(3, some("001"), 0)
	n.Inject(4, some("000"), 5)
	n.Inject(5, some("0011"), 5)
	take(t, n, 2, install(0, 1, 7, front("111")), 1)
	take(t, n, 2, install(0, 1, 8, front("0011")), 3)
	take(t, n, 2, install(0, 1, 9, front("110")), 2)
	n.Letters()
	n.Notes()
	// At 5 those that came at 0 are asked for again, one of them by the cache; the others are due at 10, as those two are to be given up.
	n.Tick(5)
	wantNotes(t, n, redirected(1, 1, 3), redirected(3, 1, 3))
	wantLetters(t, n, redirect(t, 3, 1, 1, some("00")), redirect(t, 3, 3, 1, some("001")))
	n.Tick(10)
	wantNotes(t, n,
		cached(api.NoteAge, 1, 7, front("111")), cached(api.NoteAge, 1, 9, front("110")),
		redirected(2, 1, 3), redirected(4, 1, 3), emitted(5, 8),
		dropped(1, api.WhyLate), dropped(3, api.WhyLate))
	wantLetters(t, n, redirect(t, 3, 2, 1, some("011")), redirect(t, 3, 4, 1, some("000")), letter(t, 0, beat(1, 1, 4, 0)))
	wantWaiting(t, n, api.Asked{Seq: 2, Index: 2, Head: some("011"), Sent: 2, Due: 15}, api.Asked{Seq: 4, Index: 4, Head: some("000"), Sent: 2, Due: 15})
}

// TestP204AgeFirst: what is too old has left when those that wait are looked for.
func TestP204AgeFirst(t *testing.T) {
	n := ready(t, with(func(s *api.Setup) { s.Idle, s.Beat = 5, 3 }), 0)
	n.Inject(1, some("00"), 0)
	take(t, n, 2, install(0, 1, 7, front("00")), 0)
	n.Notes()
	n.Letters()
	n.Tick(5)
	wantNotes(t, n, cached(api.NoteAge, 1, 7, front("00")), redirected(1, 1, 3))
	wantLetters(t, n, redirect(t, 3, 1, 1, some("00")))
	// One that was used by one that was due stays the longer for it.
	n = ready(t, with(func(s *api.Setup) { s.Idle, s.Beat = 5, 3 }), 0)
	n.Inject(1, some("00"), 0)
	take(t, n, 2, install(0, 1, 7, front("00")), 1)
	n.Notes()
	n.Tick(5)
	wantNotes(t, n, emitted(1, 7))
	n.Tick(9)
	wantNotes(t, n)
	n.Tick(10)
	wantNotes(t, n, cached(api.NoteAge, 1, 7, front("00")))
}

// TestP204LateTimes: above MaxTicks nothing becomes due that isn't at it.
func TestP204LateTimes(t *testing.T) {
	const most = api.MaxTicks
	n := ready(t, setup(), most-5)
	n.Inject(1, some("00"), most-5)
	n.Inject(2, some("011"), most-4)
	n.Letters()
	n.Notes()
	n.Tick(math.MaxInt)
	wantNotes(t, n, redirected(1, 1, 3))
	wantWaiting(t, n, api.Asked{Seq: 1, Index: 1, Head: some("00"), Sent: 2, Due: most + 5}, api.Asked{Seq: 2, Index: 2, Head: some("011"), Sent: 1, Due: most + 1})
	for _, now := range []int{most, most + 1, most + 5, math.MaxInt} {
		n.Tick(now)
		wantNotes(t, n)
	}
}

// TestP204Backwards: times needn't rise.
func TestP204Backwards(t *testing.T) {
	n := ready(t, setup(), 50)
	n.Inject(1, some("00"), 50)
	n.Notes()
	n.Letters()
	for _, now := range []int{49, 7, 1, -1, math.MinInt + 1} {
		n.Tick(now)
		wantNotes(t, n)
	}
	n.Letters()
	n.Tick(55)
	wantNotes(t, n, redirected(1, 1, 3))
}
