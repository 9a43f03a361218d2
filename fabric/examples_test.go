package fabric

import (
	"slices"
	"testing"

	"milepost/api"
	"milepost/cube"
	"milepost/head"
	"milepost/msg"
)

// These are DOC.md's ten examples of the whole.

// long is a setup whose times are long enough to see what happens ahead of their ends.
func long() api.Setup {
	return with(func(s *api.Setup) { s.Cache, s.Time, s.Beat, s.Lease, s.Lost = 8, 4, 2, 8, 6 })
}

// asks injects a header at 3 that has to be redirected; it answers the injection's number, and to whom it went.
func asks(t *testing.T, f *Fabric, h api.Header) (int, int) {
	t.Helper()
	index := f.Steps()
	got := doing(t, f, inject(3, h), api.OK)
	if len(got) != 2 || got[1].Kind != api.NoteRedirect {
		t.Fatal("not redirected:", got)
	}
	return index, got[1].To
}

// emitted is what a header that is emitted at once, at a switch, is emitted with.
func emitted(t *testing.T, f *Fabric, at int, h api.Header) int {
	t.Helper()
	got := doing(t, f, inject(at, h), api.OK)
	if len(got) != 2 || got[1].Kind != api.NoteEmit || got[1].At != at {
		t.Fatal("not emitted at once:", got)
	}
	return got[1].Action
}

// dropped is why a header that is dropped at once is.
func dropped(t *testing.T, f *Fabric, at int, h api.Header) int {
	t.Helper()
	got := doing(t, f, inject(at, h), api.OK)
	if len(got) != 2 || got[1].Kind != api.NoteDrop || got[1].At != at {
		t.Fatal("not dropped at once:", got)
	}
	return got[1].Why
}

// of are the notes of an injection in some, those of its coming and its redirects excepted.
func of(notes []api.Note, index int) []api.Note {
	var out []api.Note
	for _, x := range notes {
		if x.Index == index && (x.Kind == api.NoteEmit || x.Kind == api.NoteDrop) {
			out = append(out, x)
		}
	}
	return out
}

func wantOver(t *testing.T, f *Fabric, want api.Note) {
	t.Helper()
	if got := of(f.Trace(), want.Index); !slices.Equal(got, []api.Note{want}) {
		t.Errorf("%+v, want %+v", got, want)
	}
}

func TestWhole1(t *testing.T) {
	f := settled(t, long(), does80)
	index, to := asks(t, f, port(80))
	does(t, f, deliver(3, to), api.OK)
	if len(of(f.Trace(), index)) != 0 {
		t.Error("ahead of the answer")
	}
	does(t, f, deliver(to, 3), api.OK)
	wantOver(t, f, api.Note{Kind: api.NoteEmit, At: 3, Index: index, Action: 2})
	if a := emitted(t, f, 3, port(80)); a != 2 {
		t.Error(a)
	}
}

func TestWhole2(t *testing.T) {
	f := settled(t, long(), does80)
	index, to := asks(t, f, port(81))
	does(t, f, deliver(3, to), api.OK)
	does(t, f, deliver(to, 3), api.OK)
	wantOver(t, f, api.Note{Kind: api.NoteEmit, At: 3, Index: index, Action: 0})
	l := f.Slots(3, api.Cache)
	odd, _ := cube.Fix(cube.All(), 8*12-1, true)
	if len(l) != 1 || l[0].Cube != odd {
		t.Error(l, odd)
	}
	for _, n := range []int{1, 83, 443, 65535} {
		if a := emitted(t, f, 3, port(n)); a != 0 {
			t.Error(n, a)
		}
	}
	asks(t, f, port(80))
	asks(t, f, port(82))
}

func TestWhole3(t *testing.T) {
	for _, f := range []*Fabric{fresh(t, long()), settled(t, long(), does80)} {
		_, ahead := f.Present()
		wantDoing(t, f, policy("5 dport 80 -> port"), api.ErrSyntax, api.Note{Kind: api.NoteRefuse, Why: int(api.ErrSyntax), Place: 18})
		_, next := f.Prepared()
		if _, there := f.Present(); next || there != ahead || f.links.Total() != 0 {
			t.Error("something changed")
		}
		does(t, f, calm(20), api.OK)
		for _, x := range f.Trace() {
			if x.Kind == api.NoteAccept && x.Index != 1 || x.Kind == api.NotePlan && x.Epoch != 1 {
				t.Error(x)
			}
		}
	}
}

func TestWhole4(t *testing.T) {
	f := settled(t, long(), does80)
	index, to := asks(t, f, port(80))
	does(t, f, deliver(3, to), api.OK)
	does(t, f, twice(to, 3), api.OK)
	does(t, f, deliver(to, 3), api.OK)
	does(t, f, deliver(to, 3), api.OK)
	does(t, f, calm(9), api.OK)
	wantOver(t, f, api.Note{Kind: api.NoteEmit, At: 3, Index: index, Action: 2})
	// So it is where the redirect comes twice.
	index, to = asks(t, f, port(81))
	does(t, f, twice(3, to), api.OK)
	does(t, f, calm(9), api.OK)
	wantOver(t, f, api.Note{Kind: api.NoteEmit, At: 3, Index: index, Action: 0})
}

func TestWhole5(t *testing.T) {
	f := settled(t, long(), does80)
	index, to := asks(t, f, port(80))
	does(t, f, lose(3, to), api.OK)
	for range 3 {
		if got := doing(t, f, calm(1), api.OK); len(got) != 0 {
			t.Error(got)
		}
	}
	got := doing(t, f, tick(), api.OK)
	if !slices.Equal(got, []api.Note{{Kind: api.NoteRedirect, At: 3, Index: index, Epoch: 1, To: 3 - to}}) {
		t.Error(got)
	}
	does(t, f, deliver(3, 3-to), api.OK)
	does(t, f, deliver(3-to, 3), api.OK)
	wantOver(t, f, api.Note{Kind: api.NoteEmit, At: 3, Index: index, Action: 2})
	// Where that is lost too it is given up behind Time ticks more.
	index, to = asks(t, f, port(81))
	does(t, f, lose(3, to), api.OK)
	does(t, f, calm(3), api.OK)
	does(t, f, tick(), api.OK)
	does(t, f, lose(3, 3-to), api.OK)
	does(t, f, calm(3), api.OK)
	if len(of(f.Trace(), index)) != 0 {
		t.Error("too soon")
	}
	does(t, f, calm(1), api.OK)
	wantOver(t, f, api.Note{Kind: api.NoteDrop, At: 3, Index: index, Why: api.WhyLate})
}

func TestWhole6(t *testing.T) {
	const second = "5 dport 80 -> port 3\ndefault -> port 4"
	// The answer comes ahead of the update: it is as the first policy says.
	f := settled(t, long(), does80)
	index, to := asks(t, f, port(80))
	does(t, f, deliver(3, to), api.OK)
	does(t, f, policy(second), api.OK)
	does(t, f, deliver(to, 3), api.OK)
	wantOver(t, f, api.Note{Kind: api.NoteEmit, At: 3, Index: index, Action: 2})
	// The redirect is lost, and the next one goes in the second policy's epoch.
	f = settled(t, with(func(s *api.Setup) { s.Time = 20 }), does80)
	index, to = asks(t, f, port(80))
	does(t, f, lose(3, to), api.OK)
	does(t, f, policy(second), api.OK)
	does(t, f, calm(19), api.OK)
	if p, _ := f.Present(); p.Index != 2 {
		t.Fatal("the second one isn't committed")
	}
	late, _ := asks(t, f, port(81))
	does(t, f, calm(1), api.OK)
	wantOver(t, f, api.Note{Kind: api.NoteEmit, At: 3, Index: index, Action: 3})
	wantOver(t, f, api.Note{Kind: api.NoteEmit, At: 3, Index: late, Action: 4})
	// While the second one is under way each header is emitted as one of them says, and none is dropped.
	f = settled(t, long(), does80)
	does(t, f, policy(second), api.OK)
	for range 20 {
		if _, under := f.Prepared(); !under {
			break
		}
		at := f.Steps()
		does(t, f, inject(3, port(80)), api.OK)
		does(t, f, calm(1), api.OK)
		if got := of(f.Trace(), at); len(got) != 1 || got[0].Kind != api.NoteEmit || got[0].Action != 2 && got[0].Action != 3 {
			t.Error(got)
		}
	}
	for range 5 {
		at := f.Steps()
		does(t, f, inject(3, port(80)), api.OK)
		does(t, f, calm(1), api.OK)
		wantOver(t, f, api.Note{Kind: api.NoteEmit, At: 3, Index: at, Action: 3})
	}
}

func TestWhole7(t *testing.T) {
	f := settled(t, long(), does80)
	asks(t, f, port(80))
	does(t, f, calm(2), api.OK)
	sent := f.Now() - f.Now()%2
	for {
		if f.Now() < sent+8 {
			if a := emitted(t, f, 3, port(80)); a != 2 {
				t.Error(a)
			}
		} else if why := dropped(t, f, 3, port(80)); why != api.WhyLease {
			t.Error(why)
		}
		if f.Now() > sent+12 {
			break
		}
		does(t, f, tick(), api.OK)
		for f.Count(0, 3) > 0 {
			does(t, f, lose(0, 3), api.OK)
		}
	}
	if f.Status(3).Cache == 0 {
		t.Error("the cache has nothing")
	}
}

func TestWhole8(t *testing.T) {
	f := settled(t, long(), does80)
	index, to := asks(t, f, port(80))
	does(t, f, deliver(3, to), api.OK)
	wantDoing(t, f, crash(3), api.OK, api.Note{Kind: api.NoteDrop, At: 3, Index: index, Why: api.WhyCrash}, api.Note{Kind: api.NoteCrash, At: 3})
	wantDoing(t, f, start(3), api.OK, api.Note{Kind: api.NoteStart, At: 3, Epoch: 2})
	wantDoing(t, f, deliver(to, 3), api.OK, api.Note{Kind: api.NoteStale, At: 3})
	// So it is for one that comes when the new life has a lead, and somebody waits with the same number.
	f = settled(t, long(), does80)
	_, to = asks(t, f, port(80))
	does(t, f, deliver(3, to), api.OK)
	data, _ := f.Peek(to, 3, 0)
	does(t, f, lose(to, 3), api.OK)
	does(t, f, crash(3), api.OK)
	does(t, f, start(3), api.OK)
	does(t, f, calm(6), api.OK)
	index, _ = asks(t, f, port(82))
	f.links.Send(to, 3, data)
	wantDoing(t, f, deliver(to, 3), api.OK, api.Note{Kind: api.NoteStale, At: 3})
	does(t, f, calm(1), api.OK)
	wantOver(t, f, api.Note{Kind: api.NoteEmit, At: 3, Index: index})
}

// holders are those of all leaves of the present epoch.
func holders(f *Fabric) []int {
	var out []int
	p, _ := f.Present()
	for _, l := range p.Leaves {
		out = append(out, l.One, l.Two)
	}
	slices.Sort(out)
	return slices.Compact(out)
}

func TestWhole9(t *testing.T) {
	f := settled(t, with(func(s *api.Setup) { s.Cache = 0 }), does80)
	if got := holders(f); !slices.Equal(got, []int{1, 2}) {
		t.Error(got)
	}
	does(t, f, crash(1), api.OK)
	index := f.Steps()
	does(t, f, inject(3, port(80)), api.OK)
	does(t, f, calm(2), api.OK)
	wantOver(t, f, api.Note{Kind: api.NoteEmit, At: 3, Index: index, Action: 2})
	does(t, f, calm(12), api.OK)
	if got := holders(f); !slices.Equal(got, []int{0, 2}) {
		t.Error(got)
	}
	index, to := asks(t, f, port(80))
	does(t, f, calm(1), api.OK)
	wantOver(t, f, api.Note{Kind: api.NoteEmit, At: 3, Index: index, Action: 2})
	if to != 2 {
		t.Error(to)
	}
	does(t, f, start(1), api.OK)
	does(t, f, calm(12), api.OK)
	if got := holders(f); !slices.Equal(got, []int{1, 2}) {
		t.Error(got)
	}
	p, _ := f.Present()
	if p.Index != 1 || f.Accepted() != 1 {
		t.Error(p)
	}
}

func TestWhole10(t *testing.T) {
	f := settled(t, long(), does80)
	asks(t, f, port(80))
	does(t, f, calm(1), api.OK)
	does(t, f, crash(1), api.OK)
	does(t, f, crash(2), api.OK)
	for range 15 {
		if a := emitted(t, f, 3, port(80)); a != 2 {
			t.Error(a)
		}
		index := f.Steps()
		does(t, f, inject(3, port(81)), api.OK)
		does(t, f, calm(8), api.OK)
		wantOver(t, f, api.Note{Kind: api.NoteDrop, At: 3, Index: index, Why: api.WhyLate})
	}
	// The lease isn't renewed any more.
	for range 8 {
		does(t, f, tick(), api.OK)
		for f.Count(0, 3) > 0 {
			does(t, f, lose(0, 3), api.OK)
		}
	}
	if why := dropped(t, f, 3, port(80)); why != api.WhyLease {
		t.Error(why)
	}
}

// TestWholeLetters: of a header that is redirected there are two letters, the second one with the answer.
func TestWholeLetters(t *testing.T) {
	f := settled(t, long(), does80)
	h := head.Make(1, 2, 3, 80, 6)
	_, to := asks(t, f, h)
	s, _ := f.Peek(3, to, 0)
	if m := decoded(t, s); m != (api.Msg{Kind: api.MsgRedirect, Inc: 1, Seq: 1, Epoch: 1, Head: h}) {
		t.Error(m)
	}
	does(t, f, deliver(3, to), api.OK)
	s, _ = f.Peek(to, 3, 0)
	m, e := msg.Decode([]byte(s))
	if e != api.OK || m.Kind != api.MsgInstall || m.Action != 2 || !cube.Has(m.Cube, h) || f.links.Total() != 1 {
		t.Error(m, e)
	}
}
