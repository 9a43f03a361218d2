package node

import (
	"math"
	"slices"
	"testing"

	"milepost/api"
	"milepost/cube"
)

// TestP205CrashNobody: of a node where nobody waits nothing happens.
func TestP205CrashNobody(t *testing.T) {
	for _, n := range []*Node{fresh(t, setup()), ready(t, setup(), 0), beside(t)} {
		for range 2 {
			unchanged(t, n, 0, func() {
				n.Crash()
				wantNothing(t, n)
			})
		}
	}
}

// TestP205Crash: all that wait are dropped, by Seq, and nobody waits; all else stays, letters that were to be sent too.
func TestP205Crash(t *testing.T) {
	n := ready(t, setup(), 0)
	n.Inject(30, some("00"), 9)
	n.Inject(20, some("010"), 5)
	n.Inject(10, some("011"), 1)
	n.Notes()
	ahead := tell(n, 0)
	n.Crash()
	wantNotes(t, n, dropped(30, api.WhyCrash), dropped(20, api.WhyCrash), dropped(10, api.WhyCrash))
	wantWaiting(t, n)
	wantLetters(t, n, redirect(t, 2, 1, 1, some("00")), redirect(t, 3, 3, 1, some("011")))
	ahead.wait = nil
	for i := range ahead.status {
		ahead.status[i].Wait = 0
	}
	if behind := tell(n, 0); !same(ahead, behind) {
		t.Errorf("%+v, want %+v", behind, ahead)
	}
	n.Crash()
	wantNothing(t, n)
	// They are over: no tick and no answer finds them.
	n.Tick(5)
	n.Tick(14)
	wantNothing(t, n)
	take(t, n, 2, install(1, 1, 5, front("00")), 0)
	wantNotes(t, n, cached(api.NoteLearn, 1, 5, front("00")))
	// The row's numbers go on.
	n.Inject(40, some("011"), 0)
	wantNotes(t, n, redirected(40, 1, 3))
	wantLetters(t, n, redirect(t, 3, 4, 1, some("011")))
	n.Crash()
	wantNotes(t, n, dropped(40, api.WhyCrash))
}

// TestP205CrashLease: who waits is dropped for the crash, though the lease is over.
func TestP205CrashLease(t *testing.T) {
	n := ready(t, setup(), 0)
	n.Inject(1, some("00"), 9)
	give(t, n, 0, lead(0, 0, 2))
	n.Crash()
	wantNotes(t, n, dropped(1, api.WhyCrash))
}

// TestP205Since: letters and notes are told once, in the order in which they came, whatever calls they are of.
func TestP205Since(t *testing.T) {
	n := fresh(t, setup())
	take(t, n, 0, part(1, 0, 1, front("0"), 2, 3), 0)
	take(t, n, 0, lead(0, 1, 0), 0)
	n.Inject(1, some("0"), 0)
	n.Tick(0)
	n.Inject(2, some("1"), 0)
	n.Tick(5)
	n.Inject(3, some("0"), 0)
	n.Take(1, "junk", 0)
	n.Crash()
	n.Tick(6)
	wantLetters(t, n,
		letter(t, 0, ack(1, 1)), letter(t, 0, beat(1, 1, 1, 0)), redirect(t, 2, 1, 1, some("0")), letter(t, 0, beat(1, 1, 1, 0)),
		redirect(t, 3, 1, 1, some("0")), redirect(t, 2, 2, 1, some("0")), letter(t, 0, beat(1, 1, 1, 0)))
	// What letters there are says nothing of the notes, and the other way round.
	wantNotes(t, n, uses(1), redirected(1, 1, 2), dropped(2, api.WhyNone), redirected(1, 1, 3), redirected(3, 1, 2), stale(), dropped(1, api.WhyCrash), dropped(3, api.WhyCrash))
	for range 3 {
		wantNothing(t, n)
	}
	n.Tick(9)
	n.Inject(4, some("1"), 9)
	wantLetters(t, n, letter(t, 0, beat(1, 1, 1, 0)))
	wantNotes(t, n, dropped(4, api.WhyNone))
	wantNothing(t, n)
}

// TestP205Asked: to ask changes nothing.
func TestP205Asked(t *testing.T) {
	n := beside(t)
	n.Inject(1, some("01"), 0)
	for range 3 {
		unchanged(t, n, 0, func() {
			for _, now := range far() {
				n.Status(now)
				n.Slots(now)
			}
			n.Waiting()
		})
	}
	wantNotes(t, n, redirected(1, 3, 1))
	wantLetters(t, n, redirect(t, 1, 1, 3, some("01")))
}

// TestP205Status: whether it may act is asked at now; all else hangs on nothing but what was.
func TestP205Status(t *testing.T) {
	n := ready(t, setup(), 100)
	want := api.Status{Up: true, Inc: life, Use: 1, Top: 1, Auth: 1, Part: 3}
	for _, x := range []struct {
		now  int
		live bool
	}{{math.MinInt, true}, {-1, true}, {0, true}, {99, true}, {100, true}, {109, true}, {110, false}, {111, false}, {api.MaxTicks, false}, {math.MaxInt, false}} {
		want.Live = x.live
		wantStatus(t, n, x.now, want)
	}
	n = ready(t, setup(), api.MaxTicks-9)
	want.Live = true
	wantStatus(t, n, api.MaxTicks+1, want)
	wantStatus(t, n, math.MaxInt, want)
	n = ready(t, setup(), api.MaxNumber)
	wantStatus(t, n, math.MaxInt, want)
}

// TestP205StatusSteps: each field moves with what it is of.
func TestP205StatusSteps(t *testing.T) {
	n := fresh(t, setup())
	want := api.Status{Up: true, Inc: life}
	step := func(call func(), change func()) {
		t.Helper()
		call()
		change()
		wantStatus(t, n, 0, want)
	}
	step(func() {}, func() {})
	step(func() { take(t, n, 0, part(4, 0, 3, front("0"), 2, 3), 0) }, func() { want.Top, want.Part = 4, 1 })
	step(func() { take(t, n, 0, part(4, 1, 3, front("11"), 2, 3), 0) }, func() { want.Part = 2 })
	step(func() { take(t, n, 0, mod(4, 2, 3, 0, front("10"), 5), 0) }, func() { want.Auth = 1 })
	step(func() { take(t, n, 0, lead(0, 4, 0), 0) }, func() { want.Use, want.Live = 4, true })
	step(func() { n.Inject(1, some("0"), 0) }, func() { want.Wait = 1 })
	step(func() { n.Inject(2, some("11"), 0) }, func() { want.Wait = 2 })
	step(func() { n.Inject(3, some("10"), 0) }, func() {})
	step(func() { take(t, n, 1, ask(1, 1, 4, some("10")), 0) }, func() { want.Load = 1 })
	step(func() { take(t, n, 1, ask(1, 1, 4, some("10")), 0) }, func() { want.Load = 2 })
	step(func() { take(t, n, 1, ask(1, 1, 4, some("11")), 0) }, func() {})
	step(func() { take(t, n, 1, install(1, 4, 1, front("00")), 0) }, func() { want.Wait, want.Cache = 1, 1 })
	step(func() { take(t, n, 1, install(0, 4, 1, front("01")), 0) }, func() { want.Cache = 2 })
	step(func() { take(t, n, 1, install(0, 4, 1, front("11")), 0) }, func() {})
	step(func() { n.Crash() }, func() { want.Wait = 0 })
	step(func() { take(t, n, 0, floored(part(6, 0, 1, front("0"), 2, 3), 4), 0) }, func() { want.Floor, want.Top, want.Part = 4, 6, 3 })
	step(func() { take(t, n, 0, lead(0, 6, 4), 0) }, func() { want.Use = 6 })
	step(func() { take(t, n, 0, lead(0, 6, 6), 0) }, func() { want.Floor, want.Cache, want.Auth, want.Part = 6, 0, 0, 1 })
	step(func() { take(t, n, 0, lead(0, 6, 8), 0) }, func() { want = api.Status{Up: true, Inc: life, Floor: 8, Top: 8, Load: 2} })
}

// TestP205Slots: of a number that no bank has there are none.
func TestP205Slots(t *testing.T) {
	n := beside(t)
	wantSlots(t, n, api.Cache, api.Slot{Bank: api.Cache, Epoch: 3, Cube: front("00"), Action: 33})
	wantSlots(t, n, api.Auth,
		api.Slot{Bank: api.Auth, Epoch: 3, At: 1, Order: 3, Cube: front("1"), Action: 3},
		api.Slot{Bank: api.Auth, Epoch: 5, At: 1, Order: 5, Cube: front("1"), Action: 5})
	wantSlots(t, n, api.Part,
		api.Slot{Bank: api.Part, Epoch: 3, Cube: front("0"), One: 1, Two: 2},
		api.Slot{Bank: api.Part, Epoch: 5, Cube: front("0"), One: 2, Two: 3})
	for _, bank := range append(far(), 4, 5) {
		if bank < 1 || bank > 3 {
			wantSlots(t, n, bank)
		}
	}
}

// spoil changes all that a list has, its spare room too.
func spoil[T any](l []T, with T) {
	l = l[:cap(l)]
	for i := range l {
		l[i] = with
	}
}

func spoilAll(n *Node, letters []api.Letter, notes []api.Note) {
	spoil(letters, api.Letter{From: -1, To: -1, Data: "spoilt"})
	spoil(notes, api.Note{Kind: -1, At: -1})
	for bank := 1; bank <= 3; bank++ {
		spoil(n.Slots(bank), api.Slot{Bank: -1, Epoch: -1, Cube: cube.All()})
	}
	spoil(n.Waiting(), api.Asked{Seq: -1, Index: -1})
}

// TestP205Spoilt: changing what was handed out changes nothing of the node, nor of what it hands out next.
func TestP205Spoilt(t *testing.T) {
	n := beside(t)
	for i := range 30 {
		ahead := tell(n, 0)
		letters, notes := n.Letters(), n.Notes()
		spoilAll(n, letters, notes)
		if behind := tell(n, 0); !same(ahead, behind) {
			t.Fatalf("%+v, want %+v", behind, ahead)
		}
		n.Inject(i, some("01"), 0)
		take(t, n, 2, install(i+1, 3, i, front("01")), 0)
		n.Inject(100+i, some("011"), 0)
		spoil(letters, api.Letter{From: -2})
		spoil(notes, api.Note{Kind: -2})
		want := []api.Note{cached(api.NoteLearn, 3, i, front("01"))}
		if i == 0 {
			want = append([]api.Note{redirected(0, 3, 1)}, append(want, emitted(0, 0))...)
		} else {
			want = append([]api.Note{emitted(i, i-1)}, want...)
		}
		wantNotes(t, n, append(want, emitted(100+i, i))...)
	}
}

// TestP205Kept: what was handed out is changed by nobody later.
func TestP205Kept(t *testing.T) {
	n := fresh(t, with(func(s *api.Setup) { s.Idle, s.Tries = 3, 1 }))
	var checks []func() bool
	for now := range 300 {
		epoch := 1 + now/20
		take(t, n, 0, floored(part(epoch, 0, 2, front("0"), 1, 2), epoch-1), now)
		take(t, n, 0, floored(mod(epoch, 1, 2, 1, front("1"), now), epoch-1), now)
		take(t, n, 0, lead(now, epoch, epoch-1), now)
		n.Inject(now, api.Header{byte(now)}, now)
		take(t, n, 1, install(max(now-5, 0), epoch, now, front("0000")), now)
		take(t, n, 1, ask(1, 1, epoch, some("1")), now)
		n.Tick(now)
		if now%40 == 39 {
			n.Crash()
		}
		checks = append(checks, kept(n.Waiting()), kept(n.Slots(1)), kept(n.Slots(2)), kept(n.Slots(3)))
		if now%3 == 0 {
			checks = append(checks, kept(n.Letters()), kept(n.Notes()))
		}
	}
	for i, check := range checks {
		if !check() {
			t.Fatal("changed later:", i)
		}
	}
}

// kept tells whether a list is as it was.
func kept[T comparable](l []T) func() bool {
	ahead := slices.Clone(l)
	return func() bool { return slices.Equal(l, ahead) }
}

// TestP205Apart: no two answers share memory, their spare room neither.
func TestP205Apart(t *testing.T) {
	n := beside(t)
	letters, notes := map[*api.Letter]int{}, map[*api.Note]int{}
	slots, waiting := map[*api.Slot]int{}, map[*api.Asked]int{}
	for i := range 20 {
		n.Inject(i, some("01"), 0)
		n.Inject(i, some("00"), 0)
		apart(t, n.Letters(), letters, i)
		apart(t, n.Notes(), notes, i)
		for bank := 1; bank <= 3; bank++ {
			apart(t, n.Slots(bank), slots, i)
			apart(t, n.Slots(bank), slots, i)
		}
		apart(t, n.Waiting(), waiting, i)
		apart(t, n.Waiting(), waiting, i)
	}
	if len(notes) < 20 || len(slots) < 200 || len(waiting) < 100 {
		t.Error(len(letters), len(notes), len(slots), len(waiting))
	}
}

func apart[T any](t *testing.T, l []T, owner map[*T]int, answer int) {
	t.Helper()
	l = l[:cap(l)]
	for i := range l {
		if other, ok := owner[&l[i]]; ok {
			t.Error("two answers:", other, answer)
		}
		owner[&l[i]] = answer
	}
}

// TestP205Two: two nodes of one setup have nothing together.
func TestP205Two(t *testing.T) {
	a, b := ready(t, setup(), 0), ready(t, setup(), 0)
	a.Inject(1, some("00"), 0)
	take(t, a, 2, install(0, 1, 5, front("1")), 0)
	take(t, a, 2, ask(1, 1, 1, some("10")), 0)
	give(t, a, 0, lead(0, 0, 9))
	wantStatus(t, b, 0, api.Status{Up: true, Inc: life, Use: 1, Live: true, Top: 1, Auth: 1, Part: 3})
	wantNothing(t, b)
	wantWaiting(t, b)
}
