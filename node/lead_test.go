package node

import (
	"testing"

	"milepost/api"
	"milepost/cube"
)

// TestP203LeadUse: an epoch comes into use: a note and a beat; as long as it stays in use neither.
func TestP203LeadUse(t *testing.T) {
	n := fresh(t, setup())
	give(t, n, 0, part(1, 0, 2, front("0"), 1, 2), mod(1, 1, 2, 0, front("1"), 6))
	take(t, n, 0, lead(20, 1, 0), 99)
	wantNotes(t, n, uses(1))
	wantLetters(t, n, letter(t, 0, beat(1, 1, 2, 0)))
	wantStatus(t, n, 29, api.Status{Up: true, Inc: life, Use: 1, Live: true, Top: 1, Auth: 1, Part: 1})
	for _, sent := range []int{20, 21, 0, 25, 1} {
		take(t, n, 0, lead(sent, 1, 0), 0)
		wantNothing(t, n)
	}
	// The latest one counts.
	wantStatus(t, n, 34, api.Status{Up: true, Inc: life, Use: 1, Live: true, Top: 1, Auth: 1, Part: 1})
	wantStatus(t, n, 35, api.Status{Up: true, Inc: life, Use: 1, Top: 1, Auth: 1, Part: 1})
}

// TestP203LeadRefused: a lead of nothing that may be used changes nothing, and isn't stale.
func TestP203LeadRefused(t *testing.T) {
	n := fresh(t, setup())
	give(t, n, 0, part(1, 0, 2, front("0"), 1, 2))
	for _, m := range []api.Msg{lead(5, 1, 0), lead(5, 0, 0), lead(5, 2, 0), lead(0, 0, 0), lead(api.MaxNumber, api.MaxNumber, 0)} {
		unchanged(t, n, 5, func() {
			take(t, n, 0, m, 5)
			wantNothing(t, n)
		})
	}
	n = beside(t)
	give(t, n, 0, lead(0, 5, 3))
	for _, m := range []api.Msg{lead(5, 3, 3), lead(5, 4, 3), lead(5, 6, 0), lead(5, 0, 3), lead(5, 3, 0)} {
		unchanged(t, n, 5, func() {
			take(t, n, 0, m, 5)
			wantNothing(t, n)
		})
	}
}

// TestP203LeadNext: the next epoch comes into use: the one that was is still held.
func TestP203LeadNext(t *testing.T) {
	n := beside(t)
	take(t, n, 0, lead(4, 5, 3), 4)
	wantNotes(t, n, uses(5))
	wantLetters(t, n, letter(t, 0, beat(5, 5, 2, 0)))
	wantStatus(t, n, 4, api.Status{Up: true, Inc: life, Use: 5, Live: true, Floor: 3, Top: 5, Cache: 1, Auth: 2, Part: 2})
}

// TestP203LeadFloor: by a lead the floor becomes another one: what is of lesser epochs leaves, without a beat where the one in use stays.
func TestP203LeadFloor(t *testing.T) {
	n := beside(t)
	give(t, n, 0, lead(4, 5, 3))
	take(t, n, 0, lead(4, 5, 5), 4)
	wantNothing(t, n)
	wantStatus(t, n, 4, api.Status{Up: true, Inc: life, Use: 5, Live: true, Floor: 5, Top: 5, Auth: 1, Part: 1})
}

// TestP203LeadBoth: the floor and what is in use become others by one lead.
func TestP203LeadBoth(t *testing.T) {
	n := beside(t)
	take(t, n, 0, lead(4, 5, 5), 4)
	wantNotes(t, n, uses(5))
	wantLetters(t, n, letter(t, 0, beat(5, 5, 2, 0)))
	wantStatus(t, n, 4, api.Status{Up: true, Inc: life, Use: 5, Live: true, Floor: 5, Top: 5, Auth: 1, Part: 1})
}

// TestP203LeadGone: by its floor a lead may do away with what is in use, and with all that is held.
func TestP203LeadGone(t *testing.T) {
	n := beside(t)
	take(t, n, 0, lead(4, 3, 5), 4)
	wantNotes(t, n, uses(0))
	wantLetters(t, n, letter(t, 0, beat(0, 5, 2, 0)))
	wantStatus(t, n, 4, api.Status{Up: true, Inc: life, Floor: 5, Top: 5, Auth: 1, Part: 1})
	n = beside(t)
	take(t, n, 0, lead(4, 3, 4), 4)
	wantNotes(t, n, uses(0))
	wantLetters(t, n, letter(t, 0, beat(0, 5, 2, 0)))
	wantStatus(t, n, 4, api.Status{Up: true, Inc: life, Floor: 4, Top: 5, Auth: 1, Part: 1})
	n = beside(t)
	take(t, n, 0, lead(api.MaxNumber, 0, api.MaxNumber), 4)
	wantNotes(t, n, uses(0))
	wantLetters(t, n, letter(t, 0, beat(0, api.MaxNumber, 0, 0)))
	wantStatus(t, n, 4, api.Status{Up: true, Inc: life, Floor: api.MaxNumber, Top: api.MaxNumber})
	n = fresh(t, setup())
	give(t, n, 0, part(1, 0, 1, cube.All(), 1, 2))
	take(t, n, 0, lead(4, 1, 2), 4)
	wantNothing(t, n)
	wantStatus(t, n, 4, api.Status{Up: true, Inc: life, Floor: 2, Top: 2})
}

// TestP203LeadMakesRoom: what a lead's floor does away with is gone ahead of the next item.
func TestP203LeadMakesRoom(t *testing.T) {
	n := fresh(t, with(func(s *api.Setup) { s.Part = 2 }))
	give(t, n, 0, part(1, 0, 2, front("0"), 1, 2), part(1, 1, 2, front("1"), 1, 2), lead(0, 0, 2), part(2, 0, 2, front("0"), 1, 2), part(2, 1, 2, front("1"), 1, 2), lead(0, 2, 2))
	wantSlots(t, n, api.Part,
		api.Slot{Bank: api.Part, Epoch: 2, Cube: front("0"), One: 1, Two: 2},
		api.Slot{Bank: api.Part, Epoch: 2, At: 1, Cube: front("1"), One: 1, Two: 2})
	n.Inject(1, some("1"), 0)
	wantNotes(t, n, redirected(1, 2, 1))
}

// TestP203LeadBeat: the beat behind a lead is of the top, and has how many redirects were answered.
func TestP203LeadBeat(t *testing.T) {
	n := beside(t)
	for seq := range 3 {
		take(t, n, 1, ask(9, seq, 3, some("1")), 0)
	}
	give(t, n, 0, floored(part(6, 0, 3, front("0"), 1, 2), 3), part(6, 1, 3, front("0"), 1, 2))
	n.Letters()
	take(t, n, 0, lead(0, 0, 4), 0)
	wantNotes(t, n, uses(0))
	wantLetters(t, n, letter(t, 0, beat(0, 6, 2, 3)))
}
