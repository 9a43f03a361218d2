package fabric

import (
	"math"
	"slices"
	"strings"
	"testing"

	"milepost/api"
	"milepost/cube"
)

// kinds are those of messages, by letters that say one.
func kinds(t *testing.T, l []api.Letter) [][3]int {
	t.Helper()
	var out [][3]int
	for _, x := range l {
		out = append(out, [3]int{x.From, x.To, decoded(t, x.Data).Kind})
	}
	return out
}

// TestP232Kinds: none, and such as aren't there; each is a step nevertheless.
func TestP232Kinds(t *testing.T) {
	f := fresh(t, setup())
	for i, kind := range []int{0, -1, 13, 14, 99, math.MinInt, math.MaxInt} {
		x := api.Step{Kind: kind, At: 1, From: 0, To: 1, I: 0, N: 1, Text: "x", Weight: 1}
		wantDoing(t, f, x, api.ErrArg)
		if f.Steps() != i+1 || f.Now() != 0 || f.links.Total() != 0 {
			t.Error(kind, f.Steps(), f.Now(), f.links.Total())
		}
	}
}

// TestP232Number: a step's number is how many were done ahead, whatever became of them.
func TestP232Number(t *testing.T) {
	f := fresh(t, setup())
	number := 0
	for _, x := range []struct {
		step api.Step
		e    api.Errno
	}{
		{api.Step{}, api.ErrArg}, {tick(), api.OK}, {inject(9, port(1)), api.ErrArg}, {deliver(0, 9), api.ErrArg}, {deliver(1, 1), api.ErrNone}, {lose(1, 1), api.ErrNone},
		{twice(1, 1), api.ErrNone}, {deliver(1, 0), api.OK}, {lose(2, 0), api.OK}, {twice(3, 0), api.OK}, {crash(0), api.ErrArg}, {crash(2), api.OK}, {crash(2), api.ErrDown},
		{start(1), api.ErrBusy}, {start(2), api.OK}, {start(4), api.ErrArg}, {policy("x"), api.ErrSyntax}, {policy(does80), api.OK}, {policy(does80), api.ErrBusy},
		{recut(), api.ErrNone}, {hint(1, 1), api.OK}, {hint(0, 1), api.ErrArg}, {calm(-1), api.ErrArg}, {calm(0), api.OK}, {calm(3), api.OK}, {junk(0, 1, "x"), api.OK}, {junk(0, 9, "x"), api.ErrArg},
	} {
		does(t, f, x.step, x.e)
		number++
		if f.Steps() != number {
			t.Fatal(x, f.Steps(), number)
		}
		got := doing(t, f, inject(1, port(number)), api.OK)
		if len(got) != 2 || got[0] != (api.Note{Kind: api.NoteInject, At: 1, Index: number, Head: port(number)}) || got[1].Index != number {
			t.Fatal(x, got)
		}
		number++
	}
}

// TestP232TickEnd: the clock goes up to MaxTicks, and no further.
func TestP232TickEnd(t *testing.T) {
	f := fresh(t, setup())
	f.now = api.MaxTicks - 1
	does(t, f, tick(), api.OK)
	if f.Now() != api.MaxTicks || f.Count(1, 0) != 1 {
		t.Error(f.Now(), f.Count(1, 0))
	}
	for range 2 {
		wantDoing(t, f, tick(), api.ErrRange)
		if f.Now() != api.MaxTicks || f.Count(1, 0) != 1 {
			t.Error(f.Now(), f.Count(1, 0))
		}
	}
}

// TestP232Tick: of the switches those that are up, rising; behind them none of the controller's, which knows nobody.
func TestP232Tick(t *testing.T) {
	f := fresh(t, with(func(s *api.Setup) { s.Switches = 5 }))
	does(t, f, crash(2), api.OK)
	for now := 1; now <= 3; now++ {
		wantDoing(t, f, tick(), api.OK)
		if f.Now() != now {
			t.Error(now, f.Now())
		}
		got := drains(f)
		beat := encoded(t, api.Msg{Kind: api.MsgBeat, Inc: 1})
		want := []api.Letter{{From: 1, Data: beat}, {From: 3, Data: beat}, {From: 4, Data: beat}, {From: 5, Data: beat}}
		if !slices.Equal(got, want) {
			t.Error(now, got)
		}
	}
}

// TestP232TickOrder: the controller is first with its letters, then come the switches.
func TestP232TickOrder(t *testing.T) {
	f := settled(t, setup(), does80)
	does(t, f, crash(2), api.OK)
	does(t, f, tick(), api.OK)
	want := [][3]int{{0, 1, api.MsgLead}, {0, 2, api.MsgLead}, {0, 3, api.MsgLead}, {1, 0, api.MsgBeat}, {3, 0, api.MsgBeat}}
	if got := kinds(t, drains(f)); !slices.Equal(got, want) {
		t.Error(got)
	}
	// The switches' Tick comes with the clock's new time, and so does the controller's.
	does(t, f, tick(), api.OK)
	for _, l := range drains(f) {
		if m := decoded(t, l.Data); m.Kind == api.MsgLead && m.Sent != f.Now() {
			t.Error(m, f.Now())
		}
	}
}

// TestP232TickNotes: in a tick in which the controller and two switches have something to note, it is the first.
func TestP232TickNotes(t *testing.T) {
	f := settled(t, with(func(s *api.Setup) { s.Lease, s.Lost = 9, 9 }), does80)
	does(t, f, tick(), api.OK)
	drains(f)
	first := f.Steps()
	does(t, f, inject(3, port(81)), api.OK)
	does(t, f, inject(1, port(81)), api.OK)
	if n := len(f.Waiting(3)); n != 1 {
		t.Fatal(n)
	}
	// An authority's bank answers by itself: of 1 nothing waits.
	does(t, f, inject(3, port(83)), api.OK)
	drains(f)
	does(t, f, tick(), api.OK)
	does(t, f, recut(), api.OK)
	drains(f)
	does(t, f, tick(), api.OK)
	drains(f)
	does(t, f, tick(), api.OK)
	drains(f)
	// All have what the second epoch needs, so it turns in the tick in which both are given up.
	for n := 1; n <= 3; n++ {
		many := 1
		if n < 3 {
			many = 3
		}
		f.links.Send(n, 0, encoded(t, api.Msg{Kind: api.MsgAck, Inc: 1, Epoch: 2, At: many}))
		does(t, f, deliver(n, 0), api.OK)
	}
	got := doing(t, f, tick(), api.OK)
	want := []api.Note{{Kind: api.NoteTurn, Epoch: 2, Index: 1}, {Kind: api.NoteDrop, At: 3, Index: first, Why: api.WhyLate}, {Kind: api.NoteDrop, At: 3, Index: first + 2, Why: api.WhyLate}}
	if !slices.Equal(got, want) {
		t.Errorf("%+v", got)
	}
}

// TestP232TickRising: of switches that have something to note the lesser one is first.
func TestP232TickRising(t *testing.T) {
	f := settled(t, with(func(s *api.Setup) { s.Switches, s.Lease, s.Lost = 5, 9, 9 }), does80)
	does(t, f, tick(), api.OK)
	drains(f)
	first := f.Steps()
	for _, at := range []int{5, 3, 4, 3} {
		does(t, f, inject(at, port(81)), api.OK)
	}
	var got []api.Note
	for range 4 {
		got = append(got, doing(t, f, tick(), api.OK)...)
		drains(f)
	}
	var over []api.Note
	for _, x := range got {
		if x.Kind == api.NoteDrop {
			over = append(over, x)
		}
	}
	want := []api.Note{{Kind: api.NoteDrop, At: 3, Index: first + 1, Why: api.WhyLate}, {Kind: api.NoteDrop, At: 3, Index: first + 3, Why: api.WhyLate},
		{Kind: api.NoteDrop, At: 4, Index: first + 2, Why: api.WhyLate}, {Kind: api.NoteDrop, At: 5, Index: first, Why: api.WhyLate}}
	if !slices.Equal(over, want) {
		t.Errorf("%+v", over)
	}
}

// fills a link with bytes that are no message.
func fills(t *testing.T, f *Fabric, from int, to int) {
	t.Helper()
	for f.Count(from, to) < f.setup.Queue {
		does(t, f, junk(from, to, "x"), api.OK)
	}
	does(t, f, junk(from, to, "x"), api.ErrFull)
}

// TestP232Over: a note for each letter that its link has no room for, the others go.
func TestP232Over(t *testing.T) {
	f := settled(t, setup(), does80)
	fills(t, f, 0, 2)
	fills(t, f, 3, 0)
	wantDoing(t, f, tick(), api.OK, api.Note{Kind: api.NoteOver, At: 0, To: 2}, api.Note{Kind: api.NoteOver, At: 3, To: 0})
	for _, x := range [][3]int{{0, 1, 1}, {0, 2, 64}, {0, 3, 1}, {1, 0, 1}, {2, 0, 1}, {3, 0, 64}} {
		if n := f.Count(x[0], x[1]); n != x[2] {
			t.Error(x, n)
		}
	}
	if s, e := f.Peek(3, 0, 63); s != "x" || e != api.OK {
		t.Error("a letter went ahead", s, e)
	}
}

// TestP232OverBehind: notes of what happened stand ahead of those of letters; each letter has one of its own.
func TestP232OverBehind(t *testing.T) {
	f := settled(t, with(func(s *api.Setup) { s.Window, s.Queue = 3, 16 }), does80)
	fills(t, f, 3, 1)
	fills(t, f, 3, 2)
	n := f.Steps()
	got := doing(t, f, inject(3, port(80)), api.OK)
	to := got[1].To
	want := []api.Note{{Kind: api.NoteInject, At: 3, Index: n, Head: port(80)}, {Kind: api.NoteRedirect, At: 3, Index: n, Epoch: 1, To: to}, {Kind: api.NoteOver, At: 3, To: to}}
	if !slices.Equal(got, want) || to != 1 && to != 2 {
		t.Error(got)
	}
	// Three items of the next epoch for each authority, but one for 3; behind these a lead each.
	does(t, f, policy(does80), api.OK)
	fills(t, f, 0, 1)
	fills(t, f, 0, 3)
	got = doing(t, f, tick(), api.OK)
	over := func(from, to int) api.Note { return api.Note{Kind: api.NoteOver, At: from, To: to} }
	if want := []api.Note{over(0, 1), over(0, 1), over(0, 1), over(0, 1), over(0, 3), over(0, 3)}; !slices.Equal(got, want) {
		t.Error(got)
	}
	if n := f.Count(0, 2); n != 4 {
		t.Error(n)
	}
}

// TestP232OverRoom: a link with room for one more takes the first letter alone.
func TestP232OverRoom(t *testing.T) {
	f := settled(t, setup(), does80)
	does(t, f, policy(does80), api.OK)
	fills(t, f, 0, 1)
	does(t, f, lose(0, 1), api.OK)
	over := api.Note{Kind: api.NoteOver, At: 0, To: 1}
	wantDoing(t, f, tick(), api.OK, over, over, over)
	s, _ := f.Peek(0, 1, 63)
	if m := decoded(t, s); m.Kind != api.MsgPart || m.Epoch != 2 || m.At != 0 {
		t.Error(m)
	}
}

// TestP232NoAddress: nothing comes of a letter to an address that isn't there.
func TestP232NoAddress(t *testing.T) {
	f := fresh(t, setup())
	for _, m := range []api.Msg{
		{Kind: api.MsgPart, Inc: 1, Epoch: 1, At: 0, Of: 1, One: 6, Two: 9, Cube: cube.All()},
		{Kind: api.MsgLead, Inc: 1, Sent: 0, Use: 1},
	} {
		f.links.Send(0, 3, encoded(t, m))
		does(t, f, deliver(0, 3), api.OK)
	}
	drains(f)
	n := f.Steps()
	wantDoing(t, f, inject(3, port(80)), api.OK, api.Note{Kind: api.NoteInject, At: 3, Index: n, Head: port(80)}, api.Note{Kind: api.NoteRedirect, At: 3, Index: n, Epoch: 1, To: 6})
	if f.links.Total() != 0 || len(f.Waiting(3)) != 1 {
		t.Error(f.links.Total(), f.Waiting(3))
	}
}

// TestP232Inject: at 0, 1, Switches and one more; at one that is up and at one that is down.
func TestP232Inject(t *testing.T) {
	f := settled(t, setup(), does80)
	for _, at := range []int{math.MinInt, -1, 0, 4, 7, math.MaxInt} {
		wantDoing(t, f, inject(at, port(80)), api.ErrArg)
	}
	n := f.Steps()
	wantDoing(t, f, inject(1, port(80)), api.OK, api.Note{Kind: api.NoteInject, At: 1, Index: n, Head: port(80)}, api.Note{Kind: api.NoteEmit, At: 1, Index: n, Action: 2})
	wantDoing(t, f, inject(1, port(81)), api.OK, api.Note{Kind: api.NoteInject, At: 1, Index: n + 1, Head: port(81)}, api.Note{Kind: api.NoteEmit, At: 1, Index: n + 1})
	got := doing(t, f, inject(3, port(80)), api.OK)
	want := []api.Note{{Kind: api.NoteInject, At: 3, Index: n + 2, Head: port(80)}, {Kind: api.NoteRedirect, At: 3, Index: n + 2, Epoch: 1, To: got[1].To}}
	if !slices.Equal(got, want) || f.Count(3, got[1].To) != 1 {
		t.Error(got)
	}
	does(t, f, crash(3), api.OK)
	ahead := f.links.Total()
	wantDoing(t, f, inject(3, port(80)), api.OK, api.Note{Kind: api.NoteInject, At: 3, Index: n + 4, Head: port(80)}, api.Note{Kind: api.NoteDrop, At: 3, Index: n + 4, Why: api.WhyDown})
	if f.links.Total() != ahead {
		t.Error("something was sent")
	}
	does(t, f, start(3), api.OK)
	wantDoing(t, f, inject(3, port(80)), api.OK, api.Note{Kind: api.NoteInject, At: 3, Index: n + 6, Head: port(80)}, api.Note{Kind: api.NoteDrop, At: 3, Index: n + 6, Why: api.WhyLease})
	// Time counts too: behind three ticks without a lead 2 may not act.
	for range 3 {
		does(t, f, tick(), api.OK)
	}
	wantDoing(t, f, inject(2, port(80)), api.OK, api.Note{Kind: api.NoteInject, At: 2, Index: n + 10, Head: port(80)}, api.Note{Kind: api.NoteDrop, At: 2, Index: n + 10, Why: api.WhyLease})
}

// TestP232Errors: what net answers of links and letters that aren't there, and nothing changes.
func TestP232Errors(t *testing.T) {
	f := fresh(t, setup())
	does(t, f, junk(1, 2, "a"), api.OK)
	trace := len(f.Trace())
	for _, kind := range []int{api.StepDeliver, api.StepLose, api.StepTwice} {
		for _, x := range []struct {
			from, to, i int
			e           api.Errno
		}{{-1, 0, 0, api.ErrArg}, {0, -1, 0, api.ErrArg}, {4, 0, 0, api.ErrArg}, {0, 4, 0, api.ErrArg}, {6, 6, -1, api.ErrArg}, {math.MinInt, math.MaxInt, 0, api.ErrArg},
			{2, 1, 0, api.ErrNone}, {1, 2, 1, api.ErrNone}, {1, 2, -1, api.ErrNone}, {1, 2, math.MaxInt, api.ErrNone}, {1, 2, math.MinInt, api.ErrNone}, {0, 0, 0, api.ErrNone}, {3, 3, 0, api.ErrNone}} {
			does(t, f, api.Step{Kind: kind, From: x.from, To: x.to, I: x.i}, x.e)
		}
	}
	if f.links.Total() != 1 || len(f.Trace()) != trace {
		t.Error(f.links.Total(), f.Trace())
	}
	fills(t, f, 1, 2)
	wantDoing(t, f, twice(1, 2), api.ErrFull)
	if f.Count(1, 2) != 64 {
		t.Error(f.Count(1, 2))
	}
}

// letters are what a link's say.
func letters(f *Fabric, from int, to int) string {
	var out []string
	for i := range f.Count(from, to) {
		s, _ := f.Peek(from, to, i)
		out = append(out, s)
	}
	return strings.Join(out, " ")
}

// TestP232Places: letters are taken from any place; what is doubled stands behind the others.
func TestP232Places(t *testing.T) {
	f := fresh(t, setup())
	for _, s := range []string{"a", "b", "c", "d"} {
		does(t, f, junk(1, 2, s), api.OK)
	}
	stale := api.Note{Kind: api.NoteStale, At: 2}
	for _, x := range []struct {
		kind, i int
		want    string
		notes   []api.Note
	}{
		{api.StepLose, 1, "a c d", nil},
		{api.StepTwice, 1, "a c d c", nil},
		{api.StepDeliver, 2, "a c c", []api.Note{stale}},
		{api.StepTwice, 0, "a c c a", nil},
		{api.StepDeliver, 0, "c c a", []api.Note{stale}},
		{api.StepLose, 2, "c c", nil},
	} {
		wantDoing(t, f, api.Step{Kind: x.kind, From: 1, To: 2, I: x.i}, api.OK, x.notes...)
		if got := letters(f, 1, 2); got != x.want {
			t.Error(x, got)
		}
	}
}

// TestP232Deliver: a letter comes to the controller, to a switch that is up, to one that is down.
func TestP232Deliver(t *testing.T) {
	f := fresh(t, setup())
	does(t, f, policy(does80), api.OK)
	does(t, f, tick(), api.OK)
	wantDoing(t, f, deliver(1, 0), api.OK)
	wantDoing(t, f, deliver(2, 0), api.OK)
	does(t, f, lose(3, 0), api.OK)
	does(t, f, tick(), api.OK)
	if f.Count(0, 1) != 3 || f.Count(0, 2) != 3 || f.Count(0, 3) != 0 {
		t.Error("items", f.Count(0, 1), f.Count(0, 2), f.Count(0, 3))
	}
	// What an item brings goes on its way at once, behind the beat.
	wantDoing(t, f, deliver(0, 1), api.OK)
	s, _ := f.Peek(1, 0, 1)
	if m := decoded(t, s); m != (api.Msg{Kind: api.MsgAck, Inc: 1, Epoch: 1, At: 1}) {
		t.Error(m)
	}
	does(t, f, crash(2), api.OK)
	wantDoing(t, f, deliver(0, 2), api.OK, api.Note{Kind: api.NoteLost, At: 0, To: 2})
	if f.Count(0, 2) != 2 {
		t.Error("it isn't gone")
	}
	does(t, f, junk(3, 2, "x"), api.OK)
	wantDoing(t, f, deliver(3, 2), api.OK, api.Note{Kind: api.NoteLost, At: 3, To: 2})
	does(t, f, start(2), api.OK)
	wantDoing(t, f, deliver(0, 2), api.OK, api.Note{Kind: api.NoteStale, At: 2})
	for _, from := range []int{0, 1, 3} {
		does(t, f, junk(from, 0, "x"), api.OK)
		at := f.Count(from, 0) - 1
		wantDoing(t, f, api.Step{Kind: api.StepDeliver, From: from, To: 0, I: at}, api.OK, api.Note{Kind: api.NoteStale})
	}
}

// TestP232DeliverFrom: who sent a letter counts, and when it comes.
func TestP232DeliverFrom(t *testing.T) {
	f := settled(t, setup(), does80)
	lead := encoded(t, api.Msg{Kind: api.MsgLead, Inc: 1, Sent: f.Now(), Use: 1, Floor: 1})
	f.links.Send(2, 3, lead)
	wantDoing(t, f, deliver(2, 3), api.OK, api.Note{Kind: api.NoteStale, At: 3})
	f.links.Send(0, 3, lead)
	wantDoing(t, f, deliver(0, 3), api.OK)
	answer := encoded(t, api.Msg{Kind: api.MsgInstall, Inc: 1, Seq: 77, Epoch: 1, Action: 2, Cube: cube.All()})
	f.links.Send(2, 3, answer)
	wantDoing(t, f, deliver(2, 3), api.OK, api.Note{Kind: api.NoteLearn, At: 3, Epoch: 1, Action: 2, Cube: cube.All()})
	if l := f.Slots(3, api.Cache); len(l) != 1 || l[0].Born != f.Now() {
		t.Error(l)
	}
	f.links.Send(2, 3, answer)
	for range 3 {
		does(t, f, tick(), api.OK)
	}
	wantDoing(t, f, deliver(2, 3), api.OK, api.Note{Kind: api.NoteStale, At: 3})
	// A switch that the controller hears later is in for longer.
	if c := f.control; c.Turned() {
		t.Fatal("it is turned")
	}
	does(t, f, deliver(3, 0), api.OK)
	drains(f)
	does(t, f, tick(), api.OK)
	if f.Count(0, 3) != 1 || f.Count(0, 1) != 0 {
		t.Error("who is in", f.Count(0, 3), f.Count(0, 1))
	}
}

// TestP232Lose: nothing else comes of it.
func TestP232Lose(t *testing.T) {
	f := settled(t, setup(), does80)
	does(t, f, inject(3, port(80)), api.OK)
	to := 1
	if f.Count(3, 1) == 0 {
		to = 2
	}
	wantDoing(t, f, lose(3, to), api.OK)
	if f.links.Total() != 0 || len(f.Waiting(3)) != 1 || f.Status(to).Load != 0 {
		t.Error("something came of it")
	}
}

// TestP232Crash: at 0 and at one more than Switches, of one that is down and of one that is up.
func TestP232Crash(t *testing.T) {
	f := settled(t, setup(), does80)
	for _, at := range []int{math.MinInt, -1, 0, 4, 7, math.MaxInt} {
		wantDoing(t, f, crash(at), api.ErrArg)
		wantDoing(t, f, start(at), api.ErrArg)
	}
	n := f.Steps()
	does(t, f, inject(3, port(80)), api.OK)
	does(t, f, inject(3, port(81)), api.OK)
	sent := f.links.Total()
	wantDoing(t, f, crash(3), api.OK, api.Note{Kind: api.NoteDrop, At: 3, Index: n, Why: api.WhyCrash}, api.Note{Kind: api.NoteDrop, At: 3, Index: n + 1, Why: api.WhyCrash}, api.Note{Kind: api.NoteCrash, At: 3})
	if f.links.Total() != sent {
		t.Error("letters on their way stay there, and no other one comes")
	}
	wantDoing(t, f, crash(3), api.ErrDown)
	wantDoing(t, f, crash(1), api.OK, api.Note{Kind: api.NoteCrash, At: 1})
	wantDoing(t, f, crash(1), api.ErrDown)
	if f.Status(1) != (api.Status{Inc: 1}) || f.Status(3) != (api.Status{Inc: 1}) || !f.Status(2).Up {
		t.Error(f.Status(1), f.Status(2), f.Status(3))
	}
}

// TestP232Start: which life; what was kept before is gone.
func TestP232Start(t *testing.T) {
	f := settled(t, setup(), does80)
	does(t, f, inject(3, port(80)), api.OK)
	does(t, f, calm(1), api.OK)
	if x := f.Status(3); x.Cache != 1 || x.Part != 1 {
		t.Fatal(x)
	}
	wantDoing(t, f, start(3), api.ErrBusy)
	if x := f.Status(3); x.Cache != 1 || x.Inc != 1 {
		t.Error("it began anew", x)
	}
	for life := 2; life <= 5; life++ {
		does(t, f, crash(3), api.OK)
		wantDoing(t, f, start(3), api.OK, api.Note{Kind: api.NoteStart, At: 3, Epoch: life})
		if x := f.Status(3); x != (api.Status{Up: true, Inc: life}) {
			t.Error(life, x)
		}
		if len(f.Slots(3, api.Cache))+len(f.Slots(3, api.Part))+len(f.Waiting(3)) != 0 {
			t.Error(life, "something is left")
		}
	}
	if f.Status(1).Inc != 1 || f.Status(2).Inc != 1 {
		t.Error("another one's life")
	}
	// The new life is what it tells, and the controller lets it have all anew.
	does(t, f, tick(), api.OK)
	s, _ := f.Peek(3, 0, f.Count(3, 0)-1)
	if m := decoded(t, s); m != (api.Msg{Kind: api.MsgBeat, Inc: 5}) {
		t.Error(m)
	}
	does(t, f, calm(5), api.OK)
	if x := f.Status(3); !x.Live || x.Part != 1 || x.Use != 1 {
		t.Error(x)
	}
}

// TestP232Policy: the controller's answer, with its notes also where that is an error.
func TestP232Policy(t *testing.T) {
	f := fresh(t, setup())
	wantDoing(t, f, policy("5 dport 80 -> port"), api.ErrSyntax, api.Note{Kind: api.NoteRefuse, Why: int(api.ErrSyntax), Place: 18})
	wantDoing(t, f, policy("5 dport 80 -> port 2"), api.ErrDefault, api.Note{Kind: api.NoteRefuse, Why: int(api.ErrDefault), Place: 20})
	wantDoing(t, f, policy(many(5)), api.ErrBank, api.Note{Kind: api.NoteRefuse, Why: int(api.ErrBank)})
	wantDoing(t, f, recut(), api.ErrNone)
	wantDoing(t, f, policy(does80), api.OK, api.Note{Kind: api.NoteAccept, Index: 1}, api.Note{Kind: api.NotePlan, Epoch: 1, Index: 1})
	got := doing(t, f, policy(does80), api.ErrBusy)
	if len(got) > 1 || len(got) == 1 && (got[0].Kind != api.NoteRefuse || got[0].Why != int(api.ErrBusy)) {
		t.Error(got)
	}
	wantDoing(t, f, recut(), api.ErrNone)
	does(t, f, calm(20), api.OK)
	wantDoing(t, f, recut(), api.OK, api.Note{Kind: api.NotePlan, Epoch: 2, Index: 1})
	wantDoing(t, f, recut(), api.ErrBusy)
	if f.links.Total() != 0 || f.Accepted() != 1 {
		t.Error(f.links.Total(), f.Accepted())
	}
}

// many is a policy of more rules than one.
func many(rules int) string {
	var b strings.Builder
	for i := 1; i < rules; i++ {
		b.WriteString("1 proto ")
		b.WriteByte(byte('0' + i))
		b.WriteString(" -> port 1\n")
	}
	return b.String() + "default -> drop"
}

// TestP232PolicyNow: policies and cuts are of those that are in now.
func TestP232PolicyNow(t *testing.T) {
	f := settled(t, setup(), does80)
	for range 3 {
		does(t, f, tick(), api.OK)
	}
	// Nobody was heard for three ticks: a cut is for nobody.
	wantDoing(t, f, recut(), api.ErrBank)
	does(t, f, deliver(2, 0), api.OK)
	wantDoing(t, f, recut(), api.OK, api.Note{Kind: api.NotePlan, Epoch: 2, Index: 1})
	if p, _ := f.Prepared(); p.Leaves[0].One != 2 || p.Leaves[0].Two != 0 {
		t.Error(p)
	}
	f = settled(t, setup(), does80)
	for range 3 {
		does(t, f, tick(), api.OK)
	}
	does(t, f, deliver(2, 0), api.OK)
	does(t, f, policy(does80), api.OK)
	if p, _ := f.Prepared(); p.Leaves[0].One != 2 || p.Leaves[0].Two != 0 {
		t.Error(p)
	}
}

// TestP232Hint: the weight of the authority At.
func TestP232Hint(t *testing.T) {
	f := fresh(t, setup())
	for _, at := range []int{math.MinInt, -1, 0, 3, 4, math.MaxInt} {
		wantDoing(t, f, hint(at, 1), api.ErrArg)
	}
	wantDoing(t, f, hint(1, 8), api.OK)
	wantDoing(t, f, hint(2, math.Inf(1)), api.OK)
	if w := f.control.Weights(); w[0] != 8 || !math.IsInf(w[1], 1) {
		t.Error(w)
	}
	// Of two leaves each is the lighter one's first.
	f = settled(t, with(func(s *api.Setup) { s.Switches, s.Authorities = 4, 3 }), does80)
	for at, w := range []float64{9, 0, 9} {
		wantDoing(t, f, hint(at+1, w), api.OK)
	}
	does(t, f, recut(), api.OK)
	if p, _ := f.Prepared(); p.Leaves[0].One != 2 {
		t.Error(p)
	}
}

// TestP232Calm: N from 0 to MaxCalm.
func TestP232Calm(t *testing.T) {
	f := fresh(t, setup())
	for _, n := range []int{math.MinInt, -1, 401, math.MaxInt} {
		wantDoing(t, f, calm(n), api.ErrArg)
	}
	wantDoing(t, f, calm(0), api.OK)
	if f.Now() != 0 || f.links.Total() != 0 {
		t.Error(f.Now())
	}
	wantDoing(t, f, junk(1, 2, "x"), api.OK)
	wantDoing(t, f, calm(0), api.OK)
	if f.Count(1, 2) != 1 {
		t.Error("a letter came")
	}
	wantDoing(t, f, calm(1), api.OK, api.Note{Kind: api.NoteStale, At: 2})
	if f.Now() != 1 || f.links.Total() != 0 {
		t.Error(f.Now(), f.links.Total())
	}
	wantDoing(t, f, calm(400), api.OK)
	if f.Now() != 401 || f.Steps() != 9 {
		t.Error(f.Now(), f.Steps())
	}
}

// TestP232CalmOrder: the oldest letter is first, and letters bring letters in the same round.
func TestP232CalmOrder(t *testing.T) {
	f := settled(t, setup(), does80)
	for _, x := range [][2]int{{3, 2}, {1, 0}, {0, 3}, {2, 1}, {3, 2}} {
		does(t, f, junk(x[0], x[1], "x"), api.OK)
	}
	n := f.Steps()
	does(t, f, inject(3, port(80)), api.OK)
	got := doing(t, f, calm(1), api.OK)
	c := got[len(got)-2].Cube
	stale := func(at int) api.Note { return api.Note{Kind: api.NoteStale, At: at} }
	want := []api.Note{stale(2), stale(0), stale(3), stale(1), stale(2), {Kind: api.NoteLearn, At: 3, Epoch: 1, Action: 2, Cube: c}, {Kind: api.NoteEmit, At: 3, Index: n, Action: 2}}
	if !slices.Equal(got, want) || !cube.Has(c, port(80)) {
		t.Errorf("%+v", got)
	}
}

// TestP232CalmTick: in each round the tick is first, and a letter that waits comes behind it.
func TestP232CalmTick(t *testing.T) {
	f := settled(t, with(func(s *api.Setup) { s.Time = 3 }), does80)
	does(t, f, inject(3, port(81)), api.OK)
	n := f.Steps() - 1
	does(t, f, tick(), api.OK)
	drains(f)
	for range 4 {
		does(t, f, tick(), api.OK)
	}
	// It is given up by the tick of the round in which the answer to the second redirect would come.
	got := doing(t, f, calm(1), api.OK)
	if len(got) == 0 || got[0] != (api.Note{Kind: api.NoteDrop, At: 3, Index: n, Why: api.WhyLate}) {
		t.Errorf("%+v", got)
	}
}

// TestP232CalmEnd: the tick's error ends all, behind what was done ahead of it.
func TestP232CalmEnd(t *testing.T) {
	f := fresh(t, setup())
	f.now = api.MaxTicks - 2
	does(t, f, junk(1, 2, "x"), api.OK)
	wantDoing(t, f, calm(5), api.ErrRange, api.Note{Kind: api.NoteStale, At: 2})
	if f.Now() != api.MaxTicks || f.links.Total() != 0 {
		t.Error(f.Now(), f.links.Total())
	}
	does(t, f, junk(1, 2, "x"), api.OK)
	wantDoing(t, f, calm(5), api.ErrRange)
	wantDoing(t, f, calm(1), api.ErrRange)
	if f.Count(1, 2) != 1 {
		t.Error("a letter came though time can't go on")
	}
	wantDoing(t, f, calm(0), api.OK)
	wantDoing(t, f, calm(401), api.ErrArg)
}

// TestP232CalmRound: no more than MaxRound letters come in a round; the others wait for the next one.
func TestP232CalmRound(t *testing.T) {
	f := fresh(t, with(func(s *api.Setup) { s.Switches, s.Queue = 6, 512 }))
	for from := range 7 {
		for to := range 7 {
			fills(t, f, from, to)
		}
	}
	all := 7 * 7 * 512
	got := doing(t, f, calm(1), api.OK)
	if n := f.links.Total(); n != all-api.MaxRound || len(got) != 6+api.MaxRound {
		t.Error(n, len(got))
	}
	if got[0] != (api.Note{Kind: api.NoteOver, At: 1}) || got[6] != (api.Note{Kind: api.NoteStale}) {
		t.Error(got[0], got[6])
	}
	got = doing(t, f, calm(2), api.OK)
	if n := f.links.Total(); n != 0 || f.Now() != 3 {
		t.Error(n, f.Now())
	}
	stale := 0
	for _, x := range got {
		if x.Kind == api.NoteStale {
			stale++
		}
	}
	if stale != all-api.MaxRound {
		t.Error(stale)
	}
}

// TestP232CalmRounds: MaxRound is for each round anew.
func TestP232CalmRounds(t *testing.T) {
	f := fresh(t, with(func(s *api.Setup) { s.Switches, s.Queue = 6, 512 }))
	for from := range 7 {
		for to := range 7 {
			fills(t, f, from, to)
		}
	}
	does(t, f, calm(2), api.OK)
	if n := f.links.Total(); n != 0 {
		t.Error(n)
	}
}

// TestP232Junk: bytes that are no message; net's errors.
func TestP232Junk(t *testing.T) {
	f := fresh(t, setup())
	for _, m := range []api.Msg{{Kind: api.MsgAck}, {Kind: api.MsgBeat, Inc: 1}, {Kind: api.MsgLead, Inc: 9}, {Kind: api.MsgPart, Of: 1}, {Kind: api.MsgMod}, {Kind: api.MsgRedirect, Head: port(80)}, {Kind: api.MsgInstall, Cube: cube.All()}} {
		text := encoded(t, m)
		wantDoing(t, f, junk(0, 1, text), api.ErrArg)
		wantDoing(t, f, junk(0, 9, text), api.ErrArg)
		wantDoing(t, f, junk(0, 1, text[:len(text)-1]), api.OK)
		wantDoing(t, f, junk(0, 1, text+"x"), api.OK)
		does(t, f, lose(0, 1), api.OK)
		does(t, f, lose(0, 1), api.OK)
	}
	if f.links.Total() != 0 {
		t.Error(f.links.Total())
	}
	long := strings.Repeat("\x00\xff", 5000)
	for _, text := range []string{"", "x", long} {
		wantDoing(t, f, junk(3, 0, text), api.OK)
		if s, e := f.Peek(3, 0, f.Count(3, 0)-1); s != text || e != api.OK {
			t.Error(len(s), e)
		}
	}
	for _, x := range [][2]int{{-1, 0}, {0, -1}, {4, 0}, {0, 4}, {math.MinInt, math.MaxInt}} {
		wantDoing(t, f, junk(x[0], x[1], "x"), api.ErrArg)
	}
	for from := range 4 {
		for to := range 4 {
			fills(t, f, from, to)
		}
	}
	text := encoded(t, api.Msg{Kind: api.MsgAck})
	wantDoing(t, f, junk(0, 1, text), api.ErrArg)
	if f.links.Total() != 4*4*64 {
		t.Error(f.links.Total())
	}
}

// TestP232Twice: the same script comes to the same trace.
func TestP232Twice(t *testing.T) {
	for seed := range 6 {
		var seen [2]string
		for i := range seen {
			n := seeded(seed)
			f := fresh(t, n.setup())
			for range 200 {
				f.Do(n.step(f))
			}
			seen[i] = looks(f)
		}
		if seen[0] != seen[1] {
			t.Error(seed)
		}
	}
}
