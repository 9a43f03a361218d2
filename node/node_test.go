package node

import (
	"math"
	"slices"
	"testing"

	"milepost/api"
	"milepost/cube"
	"milepost/msg"
)

// What most tests use: the switch 4 in its life 7, with 2 places in the cache, 4 and 4 in the other banks, 3 that may wait.
const (
	number = 4
	life   = 7
)

func setup() api.Setup {
	return api.Setup{Switches: 6, Authorities: 3, Cache: 2, Auth: 4, Part: 4, Grain: 1, Window: 4, Queue: 64, Wait: 3, Tries: 2, Time: 5, Beat: 3, Lease: 10, Lost: 9}
}

// with is the setup, changed.
func with(change func(s *api.Setup)) api.Setup {
	s := setup()
	change(&s)
	return s
}

func fresh(t *testing.T, s api.Setup) *Node {
	t.Helper()
	n, e := New(number, life, s)
	if n == nil || e != api.OK {
		t.Fatal("New:", s, e)
	}
	return n
}

// front is the cube of all headers whose first bits are these.
func front(bits string) api.Cube {
	c := cube.All()
	for i, b := range bits {
		c, _ = cube.Fix(c, i, b == '1')
	}
	return c
}

// some is the least header whose first bits are these.
func some(bits string) api.Header {
	h, _ := cube.Ends(front(bits))
	return h
}

func data(t *testing.T, m api.Msg) string {
	t.Helper()
	b, e := msg.Encode(m)
	if e != api.OK {
		t.Fatal("no message:", m, e)
	}
	return string(b)
}

func take(t *testing.T, n *Node, from int, m api.Msg, now int) {
	t.Helper()
	n.Take(from, data(t, m), now)
}

// part and mod are items of an epoch, ahead of the numbers by which they differ.
func part(epoch int, at int, of int, c api.Cube, one int, two int) api.Msg {
	return api.Msg{Kind: api.MsgPart, Inc: life, Epoch: epoch, At: at, Of: of, Cube: c, One: one, Two: two}
}

func mod(epoch int, at int, of int, order int, c api.Cube, action int) api.Msg {
	return api.Msg{Kind: api.MsgMod, Inc: life, Epoch: epoch, At: at, Of: of, Order: order, Cube: c, Action: action}
}

func floored(m api.Msg, floor int) api.Msg {
	m.Floor = floor
	return m
}

func lead(sent int, use int, floor int) api.Msg {
	return api.Msg{Kind: api.MsgLead, Inc: life, Sent: sent, Use: use, Floor: floor}
}

func ask(inc int, seq int, epoch int, h api.Header) api.Msg {
	return api.Msg{Kind: api.MsgRedirect, Inc: inc, Seq: seq, Epoch: epoch, Head: h}
}

func install(seq int, epoch int, action int, c api.Cube) api.Msg {
	return api.Msg{Kind: api.MsgInstall, Inc: life, Seq: seq, Epoch: epoch, Action: action, Cube: c}
}

func ack(epoch int, at int) api.Msg {
	return api.Msg{Kind: api.MsgAck, Inc: life, Epoch: epoch, At: at}
}

func beat(use int, top int, at int, load int) api.Msg {
	return api.Msg{Kind: api.MsgBeat, Inc: life, Use: use, Epoch: top, At: at, Load: load}
}

func letter(t *testing.T, to int, m api.Msg) api.Letter {
	t.Helper()
	return api.Letter{From: number, To: to, Data: data(t, m)}
}

func redirect(t *testing.T, to int, seq int, epoch int, h api.Header) api.Letter {
	t.Helper()
	return letter(t, to, ask(life, seq, epoch, h))
}

func emitted(index int, action int) api.Note {
	return api.Note{Kind: api.NoteEmit, At: number, Index: index, Action: action}
}

func dropped(index int, why int) api.Note {
	return api.Note{Kind: api.NoteDrop, At: number, Index: index, Why: why}
}

func redirected(index int, epoch int, to int) api.Note {
	return api.Note{Kind: api.NoteRedirect, At: number, Index: index, Epoch: epoch, To: to}
}

func cached(kind int, epoch int, action int, c api.Cube) api.Note {
	return api.Note{Kind: kind, At: number, Epoch: epoch, Action: action, Cube: c}
}

func uses(epoch int) api.Note {
	return api.Note{Kind: api.NoteUse, At: number, Epoch: epoch}
}

func full(epoch int) api.Note {
	return api.Note{Kind: api.NoteFull, At: number, Epoch: epoch}
}

func stale() api.Note {
	return api.Note{Kind: api.NoteStale, At: number}
}

// wantNotes is what has happened since the last call.
func wantNotes(t *testing.T, n *Node, want ...api.Note) {
	t.Helper()
	if got := n.Notes(); !slices.Equal(got, want) {
		t.Errorf("notes: %v, want %v", got, want)
	}
}

func wantLetters(t *testing.T, n *Node, want ...api.Letter) {
	t.Helper()
	got := n.Letters()
	if slices.Equal(got, want) {
		return
	}
	t.Errorf("%d letters, want %d", len(got), len(want))
	for _, x := range got {
		m, e := msg.Decode([]byte(x.Data))
		t.Errorf("sent: from %d to %d: %v, %d", x.From, x.To, m, e)
	}
}

// wantNothing: nothing has happened, nothing is to be sent.
func wantNothing(t *testing.T, n *Node) {
	t.Helper()
	wantNotes(t, n)
	wantLetters(t, n)
}

func wantStatus(t *testing.T, n *Node, now int, want api.Status) {
	t.Helper()
	if got := n.Status(now); got != want {
		t.Errorf("Status(%d): %+v, want %+v", now, got, want)
	}
}

func wantSlots(t *testing.T, n *Node, bank int, want ...api.Slot) {
	t.Helper()
	if got := n.Slots(bank); !slices.Equal(got, want) {
		t.Errorf("Slots(%d): %v, want %v", bank, got, want)
	}
}

func wantWaiting(t *testing.T, n *Node, want ...api.Asked) {
	t.Helper()
	if got := n.Waiting(); !slices.Equal(got, want) {
		t.Errorf("Waiting: %v, want %v", got, want)
	}
}

// told is all that a node tells but letters and notes.
type told struct {
	status [4]api.Status
	slots  [3][]api.Slot
	wait   []api.Asked
}

func tell(n *Node, now int) told {
	var x told
	for i, at := range []int{0, now, now + 9, api.MaxTicks} {
		x.status[i] = n.Status(at)
	}
	for i := range x.slots {
		x.slots[i] = n.Slots(i + 1)
	}
	x.wait = n.Waiting()
	return x
}

func same(a told, b told) bool {
	for i := range a.slots {
		if !slices.Equal(a.slots[i], b.slots[i]) {
			return false
		}
	}
	return a.status == b.status && slices.Equal(a.wait, b.wait)
}

// unchanged runs a call behind which all that a node tells of itself must be as it was.
func unchanged(t *testing.T, n *Node, now int, call func()) {
	t.Helper()
	ahead := tell(n, now)
	call()
	if behind := tell(n, now); !same(ahead, behind) {
		t.Errorf("changed: %+v, want %+v", behind, ahead)
	}
}

// wantStale: a letter says nothing, and nothing comes of it.
func wantStale(t *testing.T, n *Node, from int, bytes string, now int) {
	t.Helper()
	unchanged(t, n, now, func() {
		t.Helper()
		n.Take(from, bytes, now)
		wantNotes(t, n, stale())
		wantLetters(t, n)
	})
}

// give hands a node messages of the controller that it takes, and forgets what comes of them.
func give(t *testing.T, n *Node, now int, all ...api.Msg) {
	t.Helper()
	for _, m := range all {
		take(t, n, 0, m, now)
	}
	if slices.Contains(n.Notes(), stale()) {
		t.Fatal("stale:", all)
	}
	n.Letters()
}

// ready is a node with epoch 1 in use, as was said at a time: the headers that begin with 00 are 2's and 3's, with 010 nobody's, with 011 just 3's as Two; its own rule says 6 of those with 10; nobody speaks of those with 11.
func ready(t *testing.T, s api.Setup, sent int) *Node {
	t.Helper()
	n := fresh(t, s)
	give(t, n, sent,
		part(1, 0, 4, front("00"), 2, 3),
		part(1, 1, 4, front("010"), 0, 0),
		part(1, 2, 4, front("011"), 0, 3),
		mod(1, 3, 4, 9, front("10"), 6),
		lead(sent, 1, 0))
	return n
}

// far are numbers of any size.
func far() []int {
	return []int{math.MinInt, math.MinInt + 1, -api.MaxTicks, -11, -10, -9, -2, -1, 0, 1, 2, 9, 10, 11, api.MaxTicks - 1, api.MaxTicks, api.MaxTicks + 1, api.MaxNumber - 1, api.MaxNumber, api.MaxNumber + 1, math.MaxInt - 1, math.MaxInt}
}

// TestExample is the chapter's.
func TestExample(t *testing.T) {
	n, e := New(1, 1, setup())
	if e != api.OK {
		t.Fatal(e)
	}
	h := api.Header{9, 8, 7}
	n.Inject(5, h, 0)
	wantNotes(t, n, api.Note{Kind: api.NoteDrop, At: 1, Index: 5, Why: api.WhyLease})
	take(t, n, 0, api.Msg{Kind: api.MsgPart, Inc: 1, Epoch: 1, Of: 1, Cube: cube.All(), One: 2}, 3)
	take(t, n, 0, api.Msg{Kind: api.MsgLead, Inc: 1, Sent: 3, Use: 1}, 3)
	wantNotes(t, n, api.Note{Kind: api.NoteUse, At: 1, Epoch: 1})
	wantLetters(t, n,
		api.Letter{From: 1, Data: data(t, api.Msg{Kind: api.MsgAck, Inc: 1, Epoch: 1, At: 1})},
		api.Letter{From: 1, Data: data(t, api.Msg{Kind: api.MsgBeat, Inc: 1, Use: 1, Epoch: 1, At: 1})})
	n.Inject(6, h, 3)
	wantNotes(t, n, api.Note{Kind: api.NoteRedirect, At: 1, Index: 6, Epoch: 1, To: 2})
	wantLetters(t, n, api.Letter{From: 1, To: 2, Data: data(t, ask(1, 1, 1, h))})
	take(t, n, 2, api.Msg{Kind: api.MsgInstall, Inc: 1, Seq: 1, Epoch: 1, Action: 8, Cube: cube.All()}, 4)
	wantNotes(t, n,
		api.Note{Kind: api.NoteLearn, At: 1, Epoch: 1, Action: 8, Cube: cube.All()},
		api.Note{Kind: api.NoteEmit, At: 1, Index: 6, Action: 8})
	n.Inject(7, api.Header{200}, 4)
	wantNotes(t, n, api.Note{Kind: api.NoteEmit, At: 1, Index: 7, Action: 8})
	wantLetters(t, n)
}

// TestNil: a nil node does nothing and has nothing.
func TestNil(t *testing.T) {
	var n *Node
	letters := []string{"", "junk", data(t, part(1, 0, 1, front("0"), 1, 2)), data(t, mod(1, 0, 1, 1, front("0"), 2)), data(t, lead(1, 1, 1)), data(t, ack(1, 1)), data(t, beat(1, 1, 1, 1)), data(t, ask(7, 1, 1, some("0"))), data(t, install(1, 1, 1, front("0")))}
	for _, now := range far() {
		n.Inject(now, some("1"), now)
		for i, x := range letters {
			n.Take(i%3, x, now)
		}
		n.Tick(now)
		n.Crash()
		if s := n.Status(now); s != (api.Status{}) {
			t.Error("Status:", s)
		}
		if l := n.Slots(now); len(l) != 0 {
			t.Error("Slots:", l)
		}
		wantNothing(t, n)
		wantWaiting(t, n)
	}
}

// TestP201Numbers: the numbers of switches and of lives that may be, and those that may not.
func TestP201Numbers(t *testing.T) {
	for switches := 2; switches <= api.MaxSwitches; switches++ {
		s := with(func(s *api.Setup) { s.Switches, s.Authorities = switches, 2 })
		for _, at := range append(far(), 3, 4, 5, 6, 7) {
			for _, inc := range far() {
				n, e := New(at, inc, s)
				right := at >= 1 && at <= switches && inc >= 1 && inc <= 1<<48-1
				if right && (n == nil || e != api.OK) || !right && (n != nil || e != api.ErrArg) {
					t.Fatal("New:", at, inc, switches, n != nil, e)
				}
			}
		}
	}
}

// TestP201Setups: one field beyond its bounds is enough.
func TestP201Setups(t *testing.T) {
	for i, change := range []func(s *api.Setup){
		func(s *api.Setup) { *s = api.Setup{} },
		func(s *api.Setup) { s.Switches, s.Authorities = 7, 2 },
		func(s *api.Setup) { s.Authorities = 1 },
		func(s *api.Setup) { s.Authorities = 7 },
		func(s *api.Setup) { s.Cache = -1 },
		func(s *api.Setup) { s.Cache = api.MaxBank + 1 },
		func(s *api.Setup) { s.Auth = 1 },
		func(s *api.Setup) { s.Part = 65 },
		func(s *api.Setup) { s.Idle = 1001 },
		func(s *api.Setup) { s.Hard = -1 },
		func(s *api.Setup) { s.Grain = 0 },
		func(s *api.Setup) { s.Window = 0 },
		func(s *api.Setup) { s.Wait = 0 },
		func(s *api.Setup) { s.Wait, s.Queue = 65, 512 },
		func(s *api.Setup) { s.Tries = 0 },
		func(s *api.Setup) { s.Tries = 9 },
		func(s *api.Setup) { s.Time = 1 },
		func(s *api.Setup) { s.Beat = 0 },
		func(s *api.Setup) { s.Lease = 8 },
		func(s *api.Setup) { s.Lost = 201 },
		func(s *api.Setup) { s.Queue = 17 },
	} {
		if n, e := New(number, life, with(change)); n != nil || e != api.ErrArg {
			t.Error("New:", i, n != nil, e)
		}
		if n, e := New(0, 0, with(change)); n != nil || e != api.ErrArg {
			t.Error("New:", i, n != nil, e)
		}
	}
	least := api.Setup{Switches: 2, Authorities: 2, Auth: 2, Part: 2, Grain: 1, Window: 1, Queue: 11, Wait: 1, Tries: 1, Time: 2, Beat: 1, Lease: 3, Lost: 3}
	most := api.Setup{Switches: 6, Authorities: 6, Cache: api.MaxBank, Auth: api.MaxBank, Part: 64, Idle: 1000, Hard: 1000, Grain: api.MaxFlat, Bias: math.NaN(), Window: 64, Queue: api.MaxQueue, Wait: api.MaxWait, Tries: 8, Time: 100, Beat: 20, Lease: 200, Lost: 200}
	for _, s := range []api.Setup{least, most} {
		if n, e := New(2, 1, s); n == nil || e != api.OK {
			t.Error("New:", s, e)
		}
	}
}

// TestP201Nothing: a new node has nothing but its number and its life.
func TestP201Nothing(t *testing.T) {
	for _, inc := range []int{1, 2, api.MaxNumber} {
		n, _ := New(2, inc, setup())
		wantNothing(t, n)
		wantWaiting(t, n)
		for _, x := range far() {
			wantStatus(t, n, x, api.Status{Up: true, Inc: inc})
			wantSlots(t, n, x)
		}
		wantSlots(t, n, api.Part)
		n.Crash()
		n.Tick(1)
		wantNothing(t, n)
		n.Tick(0)
		wantNotes(t, n)
		wantLetters(t, n, api.Letter{From: 2, Data: data(t, api.Msg{Kind: api.MsgBeat, Inc: inc})})
	}
}

// TestP201Setup: the rooms, times and bounds are the setup's, each in its place.
func TestP201Setup(t *testing.T) {
	n := fresh(t, with(func(s *api.Setup) { s.Cache, s.Auth, s.Part, s.Idle, s.Hard, s.Wait, s.Queue = 1, 2, 3, 7, 9, 4, 64 }))
	for at := range 4 {
		take(t, n, 0, part(1, at, 8, front("0"), 1, 2), 0)
	}
	for at := 4; at < 8; at++ {
		take(t, n, 0, mod(1, at, 8, 0, front("11"), 5), 0)
	}
	wantNotes(t, n, full(1), full(1), full(1))
	take(t, n, 0, lead(0, 1, 0), 0)
	wantStatus(t, n, 9, api.Status{Up: true, Inc: life, Use: 1, Live: true, Top: 1, Auth: 2, Part: 3})
	wantStatus(t, n, 10, api.Status{Up: true, Inc: life, Use: 1, Top: 1, Auth: 2, Part: 3})
	n.Notes()
	for i := range 5 {
		n.Inject(i, some("0"), 0)
	}
	if l := n.Notes(); len(l) != 5 || l[3].Kind != api.NoteRedirect || l[4] != dropped(4, api.WhyFull) {
		t.Error(l)
	}
	n.Crash()
	n.Notes()
	// Idle for 7 ticks, or 9 ticks old.
	take(t, n, 1, install(0, 1, 2, front("01")), 0)
	n.Tick(6)
	wantNotes(t, n, cached(api.NoteLearn, 1, 2, front("01")))
	n.Tick(7)
	wantNotes(t, n, cached(api.NoteAge, 1, 2, front("01")))
	take(t, n, 1, install(0, 1, 3, front("01")), 0)
	n.Inject(9, some("01"), 6)
	n.Tick(8)
	wantNotes(t, n, cached(api.NoteLearn, 1, 3, front("01")), emitted(9, 3))
	n.Tick(9)
	wantNotes(t, n, cached(api.NoteAge, 1, 3, front("01")))
}
