package node

import (
	"math"
	"testing"

	"milepost/api"
	"milepost/cube"
)

// authority is a node with these rules of epoch 1, one behind the other, in use or not.
func authority(t *testing.T, rules ...api.Rule) *Node {
	t.Helper()
	n := fresh(t, with(func(s *api.Setup) { s.Auth = 20 }))
	for i, r := range rules {
		give(t, n, 0, mod(1, i, len(rules), r.Order, r.Cube, r.Action))
	}
	return n
}

func answer(t *testing.T, to int, inc int, seq int, epoch int, action int, c api.Cube) api.Letter {
	t.Helper()
	return letter(t, to, api.Msg{Kind: api.MsgInstall, Inc: inc, Seq: seq, Epoch: epoch, Action: action, Cube: c})
}

// TestP203Redirect: an authority answers who asked, with what may be kept; it needs no lead for that.
func TestP203Redirect(t *testing.T) {
	n := authority(t,
		api.Rule{Order: 9, Cube: cube.All(), Action: 4},
		api.Rule{Order: 2, Cube: front("11"), Action: 3},
		api.Rule{Order: 1, Cube: front("101"), Action: 2},
		api.Rule{Order: 2, Cube: front("1"), Action: 1})
	for i, x := range []struct {
		bits   string
		cube   api.Cube
		action int
	}{
		{"101", front("101"), 2},
		{"11", front("11"), 3},
		{"100", front("100"), 1},
		{"0", front("0"), 4},
	} {
		unchangedButLoad(t, n, func() { take(t, n, 5, ask(12, 90+i, 1, some(x.bits)), i*50) })
		wantNotes(t, n)
		wantLetters(t, n, answer(t, 5, 12, 90+i, 1, x.action, x.cube))
		wantStatus(t, n, 0, api.Status{Up: true, Inc: life, Top: 1, Auth: 4, Load: i + 1})
	}
}

// unchangedButLoad runs a call that may change how many redirects were answered, and nothing else.
func unchangedButLoad(t *testing.T, n *Node, call func()) {
	t.Helper()
	ahead := tell(n, 0)
	call()
	behind := tell(n, 0)
	for i := range behind.status {
		behind.status[i].Load = ahead.status[i].Load
	}
	if !same(ahead, behind) {
		t.Errorf("changed: %+v, want %+v", behind, ahead)
	}
}

// TestP203RedirectNumbers: what was asked is answered with the asker's own life and number, whatever these are, to whomever but the controller.
func TestP203RedirectNumbers(t *testing.T) {
	n := authority(t, api.Rule{Cube: cube.All(), Action: api.MaxNumber})
	for _, from := range []int{math.MinInt, -1, 1, 3, number, 6, 7, 1000, math.MaxInt} {
		for _, x := range []int{0, 1, life, api.MaxNumber} {
			take(t, n, from, ask(x, api.MaxNumber-x, 1, some("1")), -x)
			wantNotes(t, n)
			wantLetters(t, n, answer(t, from, x, api.MaxNumber-x, 1, api.MaxNumber, cube.All()))
		}
	}
	wantStale(t, n, 0, data(t, ask(1, 1, 1, some("1"))), 0)
}

// TestP203RedirectTwice: the same letter twice is answered twice.
func TestP203RedirectTwice(t *testing.T) {
	n := authority(t, api.Rule{Cube: front("1"), Action: 0})
	take(t, n, 2, ask(1, 1, 1, some("1")), 0)
	take(t, n, 2, ask(1, 1, 1, some("1")), 0)
	wantLetters(t, n, answer(t, 2, 1, 1, 1, 0, front("1")), answer(t, 2, 1, 1, 1, 0, front("1")))
	wantStatus(t, n, 0, api.Status{Up: true, Inc: life, Top: 1, Auth: 1, Load: 2})
}

// TestP203RedirectFull: of an epoch that isn't full, isn't held, or can't be, nothing is answered.
func TestP203RedirectFull(t *testing.T) {
	n := fresh(t, setup())
	h := some("1")
	wantStale(t, n, 1, data(t, ask(1, 1, 0, h)), 0)
	wantStale(t, n, 1, data(t, ask(1, 1, 1, h)), 0)
	give(t, n, 0, floored(mod(3, 0, 2, 0, cube.All(), 3), 3))
	wantStale(t, n, 1, data(t, ask(1, 1, 3, h)), 0)
	give(t, n, 0, floored(mod(3, 1, 2, 1, cube.All(), 4), 3), mod(5, 0, 2, 0, cube.All(), 5))
	for _, epoch := range []int{0, 1, 2, 4, 5, 6, api.MaxNumber} {
		wantStale(t, n, 1, data(t, ask(1, 1, epoch, h)), 0)
	}
	take(t, n, 1, ask(1, 1, 3, h), 0)
	wantLetters(t, n, answer(t, 1, 1, 1, 3, 3, cube.All()))
	give(t, n, 0, mod(5, 1, 2, 1, cube.All(), 6), lead(0, 3, 3))
	// The floor's and the top's are answered, whichever is in use.
	for _, use := range []int{3, 5} {
		give(t, n, 0, lead(0, use, 3))
		take(t, n, 1, ask(1, 1, 3, h), 0)
		take(t, n, 1, ask(1, 1, 5, h), 0)
		wantLetters(t, n, answer(t, 1, 1, 1, 3, 3, cube.All()), answer(t, 1, 1, 1, 5, 5, cube.All()))
	}
	give(t, n, 0, lead(0, 5, 5))
	wantStale(t, n, 1, data(t, ask(1, 1, 3, h)), 0)
}

// TestP203RedirectNone: a header that no rule of that epoch has is stale, though partitions, the cache or another epoch have it.
func TestP203RedirectNone(t *testing.T) {
	n := fresh(t, setup())
	give(t, n, 0,
		floored(part(1, 0, 2, cube.All(), 4, 2), 1), mod(1, 1, 2, 0, front("1"), 6), lead(0, 1, 1),
		mod(2, 0, 1, 0, front("00"), 7))
	take(t, n, 2, install(0, 1, 5, front("01")), 0)
	n.Notes()
	for _, bits := range []string{"0", "00", "01", "011"} {
		wantStale(t, n, 2, data(t, ask(1, 1, 1, some(bits))), 0)
	}
	for _, bits := range []string{"1", "01", "11"} {
		wantStale(t, n, 2, data(t, ask(1, 1, 2, some(bits))), 0)
	}
	m := fresh(t, setup())
	give(t, m, 0, part(1, 0, 1, cube.All(), 4, 2), lead(0, 1, 0))
	wantStale(t, m, 2, data(t, ask(1, 1, 1, some("0"))), 0)
}

// TestP203RedirectLoad: what was answered is counted up to MaxNumber, what is stale isn't.
func TestP203RedirectLoad(t *testing.T) {
	n := authority(t, api.Rule{Cube: front("1"), Action: 1})
	n.load = api.MaxNumber - 2
	for _, want := range []int{api.MaxNumber - 1, api.MaxNumber, api.MaxNumber, api.MaxNumber} {
		take(t, n, 3, ask(1, 1, 1, some("0")), 0)
		wantNotes(t, n, stale())
		take(t, n, 3, ask(1, 1, 1, some("1")), 0)
		wantLetters(t, n, answer(t, 3, 1, 1, 1, 1, front("1")))
		if s := n.Status(0); s.Load != want {
			t.Error(s.Load, want)
		}
		n.Tick(0)
		wantLetters(t, n, letter(t, 0, beat(0, 1, 1, want)))
	}
}

// TestP203InstallBoth: an answer for somebody who waits, of the epoch in use: it is learnt, then emitted.
func TestP203InstallBoth(t *testing.T) {
	n := ready(t, setup(), 0)
	n.Inject(5, some("00"), 0)
	n.Inject(6, some("001"), 0)
	n.Notes()
	n.Letters()
	take(t, n, 2, install(2, 1, 9, front("00")), 3)
	wantNotes(t, n, cached(api.NoteLearn, 1, 9, front("00")), emitted(6, 9))
	wantLetters(t, n)
	wantWaiting(t, n, api.Asked{Seq: 1, Index: 5, Head: some("00"), Sent: 1, Due: 5})
	wantSlots(t, n, api.Cache, api.Slot{Bank: api.Cache, Epoch: 1, Cube: front("00"), Action: 9, Born: 3, Used: 3})
}

// TestP203InstallTwice: a second time nobody waits: it is learnt once more.
func TestP203InstallTwice(t *testing.T) {
	n := ready(t, setup(), 0)
	n.Inject(5, some("00"), 0)
	n.Notes()
	take(t, n, 2, install(1, 1, 9, front("00")), 1)
	wantNotes(t, n, cached(api.NoteLearn, 1, 9, front("00")), emitted(5, 9))
	take(t, n, 3, install(1, 1, 8, front("00")), 2)
	wantNotes(t, n, cached(api.NoteLearn, 1, 8, front("00")))
	wantSlots(t, n, api.Cache, api.Slot{Bank: api.Cache, Epoch: 1, Cube: front("00"), Action: 8, Born: 2, Used: 2})
	wantWaiting(t, n)
}

// TestP203InstallNobody: for nobody it is learnt alone.
func TestP203InstallNobody(t *testing.T) {
	n := ready(t, setup(), 0)
	n.Inject(5, some("00"), 0)
	n.Notes()
	n.Letters()
	for i, seq := range []int{0, 2, 99, api.MaxNumber} {
		take(t, n, 1+i, install(seq, 1, i, front("1")), i)
		wantNotes(t, n, cached(api.NoteLearn, 1, i, front("1")))
	}
	wantLetters(t, n)
	wantWaiting(t, n, api.Asked{Seq: 1, Index: 5, Head: some("00"), Sent: 1, Due: 5})
}

// TestP203InstallOtherEpoch: of an epoch that isn't in use nothing is learnt, but who waits is answered; for nobody it is stale.
func TestP203InstallOtherEpoch(t *testing.T) {
	for _, epoch := range []int{0, 2, 4, 5, 6, api.MaxNumber} {
		n := beside(t)
		n.Inject(5, some("01"), 0)
		n.Notes()
		n.Letters()
		cache := n.Slots(api.Cache)
		wantStale(t, n, 1, data(t, install(2, epoch, 9, cube.All())), 0)
		take(t, n, 1, install(1, epoch, 9, cube.All()), 0)
		wantNotes(t, n, emitted(5, 9))
		wantLetters(t, n)
		wantWaiting(t, n)
		wantSlots(t, n, api.Cache, cache...)
		wantStale(t, n, 1, data(t, install(1, epoch, 9, cube.All())), 0)
	}
}

// TestP203InstallNoCache: without any room in the cache nothing is learnt, but who waits is answered; for nobody it is stale.
func TestP203InstallNoCache(t *testing.T) {
	n := ready(t, with(func(s *api.Setup) { s.Cache = 0 }), 0)
	n.Inject(5, some("00"), 0)
	n.Notes()
	n.Letters()
	wantStale(t, n, 1, data(t, install(2, 1, 9, cube.All())), 0)
	take(t, n, 1, install(1, 1, 9, cube.All()), 0)
	wantNotes(t, n, emitted(5, 9))
	wantLetters(t, n)
	wantStale(t, n, 1, data(t, install(1, 1, 9, cube.All())), 0)
	wantSlots(t, n, api.Cache)
}

// TestP203InstallEvicts: in a full cache somebody leaves, ahead of what is learnt, ahead of what is emitted.
func TestP203InstallEvicts(t *testing.T) {
	n := ready(t, setup(), 0)
	n.Inject(5, some("00"), 0)
	n.Notes()
	take(t, n, 1, install(0, 1, 1, front("0001")), 1)
	take(t, n, 1, install(0, 1, 2, front("0010")), 2)
	wantNotes(t, n, cached(api.NoteLearn, 1, 1, front("0001")), cached(api.NoteLearn, 1, 2, front("0010")))
	n.Inject(6, some("0001"), 4)
	wantNotes(t, n, emitted(6, 1))
	take(t, n, 1, install(1, 1, 3, front("0000")), 3)
	wantNotes(t, n, cached(api.NoteEvict, 1, 2, front("0010")), cached(api.NoteLearn, 1, 3, front("0000")), emitted(5, 3))
	// What is there already needs no room.
	take(t, n, 1, install(0, 1, 4, front("0001")), 3)
	wantNotes(t, n, cached(api.NoteLearn, 1, 4, front("0001")))
	take(t, n, 1, install(0, 1, 5, front("0011")), 3)
	wantNotes(t, n, cached(api.NoteEvict, 1, 4, front("0001")), cached(api.NoteLearn, 1, 5, front("0011")))
	wantStatus(t, n, 3, api.Status{Up: true, Inc: life, Use: 1, Live: true, Top: 1, Cache: 2, Auth: 1, Part: 3})
}

// TestP203InstallEvictsEpoch: who leaves is told with its own epoch.
func TestP203InstallEvictsEpoch(t *testing.T) {
	n := beside(t)
	give(t, n, 0, lead(0, 5, 3))
	take(t, n, 1, install(0, 5, 7, front("01")), 1)
	take(t, n, 1, install(0, 5, 8, front("00")), 1)
	wantNotes(t, n, cached(api.NoteLearn, 5, 7, front("01")), cached(api.NoteEvict, 3, 33, front("00")), cached(api.NoteLearn, 5, 8, front("00")))
}

// TestP203InstallStale: from the controller, for another life, or while the node may not act nothing is learnt, and nobody is answered.
func TestP203InstallStale(t *testing.T) {
	n := ready(t, setup(), 50)
	n.Inject(5, some("00"), 50)
	n.Notes()
	n.Letters()
	m := install(1, 1, 9, front("00"))
	wantStale(t, n, 0, data(t, m), 50)
	for _, inc := range []int{0, 1, life - 1, life + 1, api.MaxNumber} {
		other := m
		other.Inc = inc
		wantStale(t, n, 2, data(t, other), 50)
	}
	for _, now := range []int{60, 61, 1000, api.MaxTicks, math.MaxInt} {
		wantStale(t, n, 2, data(t, m), now)
	}
	// A floor does away with what is in use.
	give(t, n, 50, lead(50, 0, 2))
	wantStale(t, n, 2, data(t, m), 50)
	n = ready(t, setup(), 50)
	n.Inject(5, some("00"), 50)
	n.Notes()
	take(t, n, -1, m, 59)
	wantNotes(t, n, cached(api.NoteLearn, 1, 9, front("00")), emitted(5, 9))
	n = fresh(t, setup())
	wantStale(t, n, 2, data(t, install(0, 0, 9, cube.All())), 0)
	wantStale(t, n, 2, data(t, install(1, 1, 9, cube.All())), 0)
}

// TestP203InstallTimes: what is learnt is learnt at now, below 0 as at 0, above MaxTicks as at that.
func TestP203InstallTimes(t *testing.T) {
	for _, x := range []struct{ sent, now, born int }{{0, math.MinInt, 0}, {0, -1, 0}, {0, 9, 9}, {api.MaxTicks, api.MaxTicks, api.MaxTicks}, {api.MaxTicks, api.MaxTicks + 1, api.MaxTicks}, {api.MaxTicks - 9, math.MaxInt, api.MaxTicks}} {
		n := ready(t, setup(), x.sent)
		take(t, n, 1, install(0, 1, api.MaxNumber, front("0")), x.now)
		wantNotes(t, n, cached(api.NoteLearn, 1, api.MaxNumber, front("0")))
		wantSlots(t, n, api.Cache, api.Slot{Bank: api.Cache, Epoch: 1, Cube: front("0"), Action: api.MaxNumber, Born: x.born, Used: x.born})
	}
}

// TestP203InstallForeign: an answer needn't have the header that waits, nor come from the one that was asked.
func TestP203InstallForeign(t *testing.T) {
	n := ready(t, setup(), 0)
	n.Inject(5, some("00"), 0)
	n.Notes()
	take(t, n, 6, install(1, 1, 9, front("111")), 0)
	wantNotes(t, n, cached(api.NoteLearn, 1, 9, front("111")), emitted(5, 9))
}
