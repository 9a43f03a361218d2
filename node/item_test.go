package node

import (
	"math"
	"testing"

	"milepost/api"
	"milepost/cube"
	"milepost/msg"
)

// TestP203Junk: data that is no message is stale, from whomever.
func TestP203Junk(t *testing.T) {
	n := ready(t, setup(), 0)
	right := data(t, part(2, 0, 1, cube.All(), 1, 2))
	for _, bytes := range []string{"", "\x00", "junk", "\xff\xff\xff", right + "\x00", right[:len(right)-1], right[1:], "\x00\x00\x00", "\x00\x00\x08", "\x00\x12\x04"} {
		if _, e := msg.Decode([]byte(bytes)); e == api.OK {
			t.Fatal("a message:", bytes)
		}
		for _, from := range append(far(), 3, 4, 5) {
			wantStale(t, n, from, bytes, 0)
		}
	}
	wantStale(t, fresh(t, setup()), 0, "junk", 0)
}

// TestP203Others: what only the controller is told is stale at a switch.
func TestP203Others(t *testing.T) {
	n := ready(t, setup(), 0)
	n.Inject(1, some("00"), 0)
	n.Letters()
	n.Notes()
	for _, m := range []api.Msg{ack(1, 1), ack(1, 4), ack(2, 0), beat(1, 1, 4, 0), beat(0, 0, 0, 9), {Kind: api.MsgAck}, {Kind: api.MsgBeat}} {
		for _, from := range []int{-1, 0, 1, 2, number, 6, 7, math.MaxInt} {
			wantStale(t, n, from, data(t, m), 0)
		}
	}
}

// TestP203From: items and leads of somebody else than the controller, or for another life, are stale.
func TestP203From(t *testing.T) {
	n := ready(t, setup(), 0)
	for _, m := range []api.Msg{floored(part(2, 0, 1, cube.All(), 1, 2), 2), floored(mod(2, 0, 1, 0, cube.All(), 1), 2), part(1, 0, 4, front("00"), 2, 3), lead(5, 1, 0), lead(5, 0, 9)} {
		for _, from := range []int{math.MinInt, -1, 1, 2, number, 6, 7, math.MaxInt} {
			wantStale(t, n, from, data(t, m), 0)
		}
		for _, inc := range []int{0, 1, life - 1, life + 1, 2 * life, api.MaxNumber} {
			m.Inc = inc
			wantStale(t, n, 0, data(t, m), 0)
			wantStale(t, n, 1, data(t, m), 0)
		}
	}
}

// TestP203Item: new items lie in their banks, each with the fields of its kind, and how many there are is acknowledged.
func TestP203Item(t *testing.T) {
	n := fresh(t, setup())
	take(t, n, 0, part(3, 0, 4, front("01"), 5, 6), 9)
	wantLetters(t, n, letter(t, 0, ack(3, 1)))
	take(t, n, 0, mod(3, 1, 4, 8, front("0"), 99), 9)
	wantLetters(t, n, letter(t, 0, ack(3, 2)))
	take(t, n, 0, part(3, 2, 4, cube.All(), 0, api.MaxNumber), 9)
	take(t, n, 0, mod(3, 3, 4, api.MaxNumber, cube.Of(some("111")), api.MaxNumber), -9)
	wantLetters(t, n, letter(t, 0, ack(3, 3)), letter(t, 0, ack(3, 4)))
	wantNotes(t, n)
	wantSlots(t, n, api.Cache)
	wantSlots(t, n, api.Auth,
		api.Slot{Bank: api.Auth, Epoch: 3, At: 1, Order: 8, Cube: front("0"), Action: 99},
		api.Slot{Bank: api.Auth, Epoch: 3, At: 3, Order: api.MaxNumber, Cube: cube.Of(some("111")), Action: api.MaxNumber})
	wantSlots(t, n, api.Part,
		api.Slot{Bank: api.Part, Epoch: 3, At: 0, Cube: front("01"), One: 5, Two: 6},
		api.Slot{Bank: api.Part, Epoch: 3, At: 2, Cube: cube.All(), Two: api.MaxNumber})
	wantStatus(t, n, 0, api.Status{Up: true, Inc: life, Top: 3, Auth: 2, Part: 2})
}

// TestP203Twice: an item that is there already changes nothing, whatever it says, and is acknowledged once more.
func TestP203Twice(t *testing.T) {
	n := fresh(t, setup())
	give(t, n, 0, part(1, 0, 3, front("0"), 1, 2), mod(1, 1, 3, 5, front("1"), 6))
	for _, m := range []api.Msg{part(1, 0, 3, front("0"), 1, 2), part(1, 0, 3, cube.All(), 9, 9), mod(1, 0, 3, 1, cube.All(), 9), mod(1, 1, 3, 5, front("1"), 6), part(1, 1, 3, cube.All(), 9, 9)} {
		unchanged(t, n, 0, func() {
			take(t, n, 0, m, 0)
			wantNotes(t, n)
			wantLetters(t, n, letter(t, 0, ack(1, 2)))
		})
	}
	give(t, n, 0, mod(1, 2, 3, 0, cube.All(), 3))
	take(t, n, 0, part(1, 0, 3, front("0"), 1, 2), 0)
	wantLetters(t, n, letter(t, 0, ack(1, 3)))
}

// TestP203Refused: items ahead of their turn, of another number of items, or that can't be, are stale.
func TestP203Refused(t *testing.T) {
	n := fresh(t, setup())
	give(t, n, 0, part(5, 0, 3, front("0"), 1, 2))
	for _, m := range []api.Msg{
		part(5, 2, 3, front("1"), 1, 2), mod(5, 2, 3, 1, front("1"), 2), part(5, api.MaxNumber-1, api.MaxNumber, front("1"), 1, 2),
		part(5, 1, 4, front("1"), 1, 2), mod(5, 0, 2, 1, front("1"), 2), part(5, 0, api.MaxNumber, front("1"), 1, 2),
		part(0, 0, 3, front("1"), 1, 2), mod(0, 0, 1, 1, front("1"), 2), part(5, 3, 3, front("1"), 1, 2), part(5, 0, 0, front("1"), 1, 2), part(5, api.MaxNumber, api.MaxNumber, front("1"), 1, 2),
		part(4, 0, 3, front("1"), 1, 2), mod(1, 0, 1, 1, front("1"), 2),
	} {
		wantStale(t, n, 0, data(t, m), 0)
	}
	give(t, n, 0, part(5, 1, 3, front("1"), 1, 2))
	wantStatus(t, n, 0, api.Status{Up: true, Inc: life, Top: 5, Part: 2})
}

// TestP203NoRoom: an item for which its bank has no room is told, and acknowledged all the same.
func TestP203NoRoom(t *testing.T) {
	n := fresh(t, with(func(s *api.Setup) { s.Auth, s.Part = 3, 2 }))
	for at := range 2 {
		give(t, n, 0, part(1, at, 7, front("0"), 1, 2))
	}
	take(t, n, 0, part(1, 2, 7, front("0"), 1, 2), 0)
	wantNotes(t, n, full(1))
	wantLetters(t, n, letter(t, 0, ack(1, 3)))
	for at := 3; at < 6; at++ {
		take(t, n, 0, mod(1, at, 7, at, front("0"), at), 0)
		wantNotes(t, n)
		wantLetters(t, n, letter(t, 0, ack(1, at+1)))
	}
	take(t, n, 0, mod(1, 6, 7, 0, front("0"), 6), 0)
	wantNotes(t, n, full(1))
	wantLetters(t, n, letter(t, 0, ack(1, 7)))
	// Once more it is there already: no room is asked for.
	take(t, n, 0, mod(1, 6, 7, 0, front("0"), 6), 0)
	wantNotes(t, n)
	wantLetters(t, n, letter(t, 0, ack(1, 7)))
	if a, p := n.Slots(api.Auth), n.Slots(api.Part); len(a) != 3 || a[2].At != 5 || len(p) != 2 || p[1].At != 1 {
		t.Error(a, p)
	}
	// The hold counts what had no room: the epoch is full, and may be used.
	take(t, n, 0, lead(0, 1, 0), 0)
	wantNotes(t, n, uses(1))
	// Another bank's room is its own, and another epoch's items find none.
	take(t, n, 0, part(2, 0, 1, front("0"), 1, 2), 0)
	wantNotes(t, n, uses(0))
	if a, p := n.Slots(api.Auth), n.Slots(api.Part); len(a) != 0 || len(p) != 1 || p[0].Epoch != 2 {
		t.Error(a, p)
	}
}

// beside is a node with the epochs 3 (the floor, in use as said at 0) and 5 (the top), each of a partition and a rule, and a slot of the cache of epoch 3.
func beside(t *testing.T) *Node {
	t.Helper()
	n := fresh(t, setup())
	give(t, n, 0,
		floored(part(3, 0, 2, front("0"), 1, 2), 3), floored(mod(3, 1, 2, 3, front("1"), 3), 3), lead(0, 3, 3),
		floored(part(5, 0, 2, front("0"), 2, 3), 3), floored(mod(5, 1, 2, 5, front("1"), 5), 3))
	take(t, n, 1, install(0, 3, 33, front("00")), 0)
	wantNotes(t, n, cached(api.NoteLearn, 3, 33, front("00")))
	wantStatus(t, n, 0, api.Status{Up: true, Inc: life, Use: 3, Live: true, Floor: 3, Top: 5, Cache: 1, Auth: 2, Part: 2})
	return n
}

// TestP203ItemSameBounds: as long as floor and top stay, nothing leaves the table.
func TestP203ItemSameBounds(t *testing.T) {
	n := beside(t)
	for _, m := range []api.Msg{part(3, 0, 2, front("0"), 1, 2), floored(mod(3, 1, 2, 3, front("1"), 3), 1), floored(part(5, 0, 2, front("0"), 1, 2), 3)} {
		unchanged(t, n, 0, func() {
			take(t, n, 0, m, 0)
			wantNotes(t, n)
			wantLetters(t, n, letter(t, 0, ack(m.Epoch, 2)))
		})
	}
	for _, m := range []api.Msg{part(4, 0, 2, front("0"), 1, 2), floored(part(2, 0, 2, front("0"), 1, 2), 2)} {
		wantStale(t, n, 0, data(t, m), 0)
	}
}

// TestP203ItemFloor: by an item the floor becomes another one: what is of lesser epochs leaves all banks, and if that was in use, none is.
func TestP203ItemFloor(t *testing.T) {
	n := beside(t)
	take(t, n, 0, floored(part(5, 0, 2, front("0"), 2, 3), 5), 0)
	wantNotes(t, n, uses(0))
	wantLetters(t, n, letter(t, 0, ack(5, 2)))
	wantStatus(t, n, 0, api.Status{Up: true, Inc: life, Floor: 5, Top: 5, Auth: 1, Part: 1})
	wantSlots(t, n, api.Auth, api.Slot{Bank: api.Auth, Epoch: 5, At: 1, Order: 5, Cube: front("1"), Action: 5})
	wantSlots(t, n, api.Part, api.Slot{Bank: api.Part, Epoch: 5, Cube: front("0"), One: 2, Two: 3})
	wantLease(t, n, some("1"), 0)
}

// TestP203ItemFloorBetween: a floor between the floor and the top: the top stays.
func TestP203ItemFloorBetween(t *testing.T) {
	n := beside(t)
	take(t, n, 0, floored(part(4, 0, 1, cube.All(), 1, 2), 4), 0)
	wantNotes(t, n, uses(0))
	wantLetters(t, n, letter(t, 0, ack(4, 1)))
	wantStatus(t, n, 0, api.Status{Up: true, Inc: life, Floor: 4, Top: 5, Auth: 1, Part: 2})
	take(t, n, 0, lead(0, 4, 4), 0)
	wantNotes(t, n, uses(4))
	take(t, n, 0, lead(0, 5, 4), 0)
	wantNotes(t, n, uses(5))
	take(t, n, 0, floored(part(5, 0, 2, front("0"), 1, 2), 5), 0)
	wantNotes(t, n)
	wantStatus(t, n, 0, api.Status{Up: true, Inc: life, Use: 5, Live: true, Floor: 5, Top: 5, Auth: 1, Part: 1})
}

// TestP203ItemTop: by an item the top becomes another one: what is of the old one leaves.
func TestP203ItemTop(t *testing.T) {
	n := beside(t)
	take(t, n, 0, floored(part(6, 0, 2, front("1"), 3, 1), 3), 0)
	wantNotes(t, n)
	wantLetters(t, n, letter(t, 0, ack(6, 1)))
	wantStatus(t, n, 0, api.Status{Up: true, Inc: life, Use: 3, Live: true, Floor: 3, Top: 6, Cache: 1, Auth: 1, Part: 2})
	wantSlots(t, n, api.Part, api.Slot{Bank: api.Part, Epoch: 3, Cube: front("0"), One: 1, Two: 2}, api.Slot{Bank: api.Part, Epoch: 6, Cube: front("1"), One: 3, Two: 1})
	if l := n.Slots(api.Auth); len(l) != 1 || l[0].Epoch != 3 {
		t.Error(l)
	}
	// The one in use goes with the old top.
	n = beside(t)
	give(t, n, 0, lead(0, 5, 3))
	take(t, n, 1, install(0, 5, 55, front("00")), 0)
	n.Notes()
	take(t, n, 0, part(9, 0, 2, front("1"), 3, 1), 0)
	wantNotes(t, n, uses(0))
	wantStatus(t, n, 0, api.Status{Up: true, Inc: life, Floor: 3, Top: 9, Cache: 1, Auth: 1, Part: 2})
	wantSlots(t, n, api.Cache, api.Slot{Bank: api.Cache, Epoch: 3, Cube: front("00"), Action: 33})
}

// TestP203ItemBoth: both become others at once; items of epoch 0's floor are never held.
func TestP203ItemBoth(t *testing.T) {
	n := beside(t)
	take(t, n, 0, floored(mod(9, 0, 1, 1, front("1"), 3), 7), 0)
	wantNotes(t, n, uses(0))
	wantLetters(t, n, letter(t, 0, ack(9, 1)))
	wantStatus(t, n, 0, api.Status{Up: true, Inc: life, Floor: 7, Top: 9, Auth: 1})
	n = beside(t)
	take(t, n, 0, floored(mod(9, 0, 1, 1, front("1"), 3), 5), 0)
	wantNotes(t, n, uses(0))
	wantStatus(t, n, 0, api.Status{Up: true, Inc: life, Floor: 5, Top: 9, Auth: 2, Part: 1})
	n = fresh(t, setup())
	give(t, n, 0, part(1, 0, 1, cube.All(), 1, 2), lead(0, 1, 0))
	take(t, n, 0, part(2, 0, 1, cube.All(), 1, 2), 0)
	wantNotes(t, n, uses(0))
	wantStatus(t, n, 0, api.Status{Up: true, Inc: life, Top: 2, Part: 1})
}

// TestP203ItemStaleTidies: an item that is refused may bring another floor or top all the same: the notes stand in their order.
func TestP203ItemStaleTidies(t *testing.T) {
	n := beside(t)
	take(t, n, 0, floored(part(4, 0, 1, cube.All(), 1, 2), 5), 0)
	wantNotes(t, n, uses(0), stale())
	wantLetters(t, n)
	wantStatus(t, n, 0, api.Status{Up: true, Inc: life, Floor: 5, Top: 5, Auth: 1, Part: 1})
	n = beside(t)
	take(t, n, 0, floored(part(api.MaxNumber, 1, 2, cube.All(), 1, 2), api.MaxNumber), 0)
	wantNotes(t, n, uses(0), stale())
	wantLetters(t, n)
	wantStatus(t, n, 0, api.Status{Up: true, Inc: life, Floor: api.MaxNumber, Top: api.MaxNumber})
	n = beside(t)
	take(t, n, 0, part(6, 1, 2, cube.All(), 1, 2), 0)
	wantNotes(t, n, stale())
	wantStatus(t, n, 0, api.Status{Up: true, Inc: life, Use: 3, Live: true, Floor: 3, Top: 6, Cache: 1, Auth: 1, Part: 1})
}

// TestP203TidyMakesRoom: what leaves, leaves ahead of what comes.
func TestP203TidyMakesRoom(t *testing.T) {
	n := fresh(t, with(func(s *api.Setup) { s.Auth, s.Part = 2, 2 }))
	give(t, n, 0, floored(part(1, 0, 4, front("0"), 1, 2), 1), part(1, 1, 4, front("1"), 1, 2), mod(1, 2, 4, 1, front("0"), 1), mod(1, 3, 4, 1, front("1"), 1), lead(0, 1, 1))
	take(t, n, 0, floored(part(2, 0, 2, cube.All(), 1, 2), 2), 0)
	take(t, n, 0, floored(mod(2, 1, 2, 0, cube.All(), 2), 2), 0)
	wantNotes(t, n, uses(0))
	wantLetters(t, n, letter(t, 0, ack(2, 1)), letter(t, 0, ack(2, 2)))
	wantStatus(t, n, 0, api.Status{Up: true, Inc: life, Floor: 2, Top: 2, Auth: 1, Part: 1})
	// With the note of no room: it stands behind that of the use.
	n = fresh(t, with(func(s *api.Setup) { s.Auth, s.Part = 2, 2 }))
	give(t, n, 0, floored(part(1, 0, 2, front("0"), 1, 2), 1), part(1, 1, 2, front("1"), 1, 2), part(2, 0, 1, front("0"), 1, 2), lead(0, 2, 1))
	n.Notes()
	take(t, n, 0, part(3, 0, 1, cube.All(), 1, 2), 0)
	wantNotes(t, n, uses(0), full(3))
	wantLetters(t, n, letter(t, 0, ack(3, 1)))
}
