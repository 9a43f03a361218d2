package fabric

import (
	"slices"
	"testing"

	"milepost/api"
	"milepost/cube"
	"milepost/cut"
	"milepost/flat"
	"milepost/msg"
	"milepost/plan"
	"milepost/sense"
)

// came is an injection that is open: where it came, and when; how many policies were committed then; how often it was redirected.
type came struct {
	at, when, committed, redirects int
	head                           api.Header
}

// watch follows a fabric, and holds what DOC.md says of the whole (T1 to T6) against each step.
type watch struct {
	t         *testing.T
	f         *Fabric
	s         api.Setup
	seed      int
	noise     *noise
	read      int // how many notes
	policies  [][]api.Entry
	committed int
	open      map[int]came
	over      map[int]bool
	first     map[string]int // at which step a letter of the controller was seen first
	begun     map[int]int    // at which step a switch began
	led       map[int]int    // when the latest lead that came to a switch in its life was sent
	found     map[string]int
}

func newWatch(t *testing.T, s api.Setup, seed int, noise *noise, found map[string]int) *watch {
	return &watch{t: t, f: fresh(t, s), s: s, seed: seed, noise: noise, open: map[int]came{}, over: map[int]bool{}, first: map[string]int{}, begun: map[int]int{}, led: map[int]int{}, found: found}
}

func (w *watch) fail(what string, x ...any) {
	w.t.Helper()
	w.t.Fatalf("seed %d, step %d, at %d: %s: %+v (%+v)", w.seed, w.f.Steps(), w.f.Now(), what, x, w.s)
}

// step does one and looks at all that it brings. A calm is done step by step, so that no letter comes unseen.
func (w *watch) step(x api.Step) api.Errno {
	if x.Kind == api.StepCalm && x.N >= 0 && x.N <= api.MaxCalm {
		for range x.N {
			w.round()
		}
		return api.OK
	}
	judge := func(api.Errno) {}
	if _, under := w.f.Prepared(); x.Kind == api.StepPolicy && !under {
		judge = w.judges(x.Text)
	}
	at := w.f.Status(x.At)
	number := w.f.Steps()
	w.coming(x)
	e := w.f.Do(x)
	judge(e)
	w.reads(x, number)
	if x.Kind == api.StepInject && e == api.OK && !at.Live && !w.over[number] {
		w.fail("T5: not over in that step", at)
	}
	w.sees(number)
	w.bounds()
	return e
}

// round is one of the calm.
func (w *watch) round() {
	w.step(tick())
	for range api.MaxRound {
		if w.f.links.Total() == 0 {
			return
		}
		w.step(w.noise.oldest(w.f))
	}
}

// sees remembers which letters of the controller are new.
func (w *watch) sees(number int) {
	for n := 1; n <= w.s.Switches; n++ {
		for i := range w.f.Count(0, n) {
			s, _ := w.f.Peek(0, n, i)
			key := string(rune('0'+n)) + s
			if _, ok := w.first[key]; !ok {
				w.first[key] = number
			}
		}
	}
}

// coming remembers the leads that come.
func (w *watch) coming(x api.Step) {
	if x.Kind != api.StepDeliver || x.From != 0 || !w.f.Status(x.To).Up {
		return
	}
	s, e := w.f.Peek(0, x.To, x.I)
	if e != api.OK {
		return
	}
	m, wrong := decodedOr(s)
	// A lead that was sent ahead of its beginning is none of this life's, nor is one that speaks of another life.
	if wrong || m.Kind != api.MsgLead || m.Inc != w.f.Status(x.To).Inc || w.first[string(rune('0'+x.To))+s] < w.begun[x.To] {
		return
	}
	if sent, ok := w.led[x.To]; !ok || m.Sent > sent {
		w.led[x.To] = m.Sent
	}
}

// judges answers what has to come of a text (T2), by all that the layers say of it.
func (w *watch) judges(text string) func(api.Errno) {
	present, _ := w.f.Present()
	total, trace := w.f.links.Total(), len(w.f.trace)
	entries, want, _ := sense.Read(text)
	var table []api.Rule
	if want == api.OK {
		table, want = flat.Compile(entries)
	}
	if want == api.OK {
		var all []int
		for n := 1; n <= w.s.Authorities; n++ {
			all = append(all, n)
		}
		_, want = plan.Make(table, w.s, all, w.f.control.Weights())
		if want != api.OK && len(table) <= w.s.Auth/2 {
			w.fail("T2: there is room", want)
		}
	}
	return func(e api.Errno) {
		if w.f.links.Total() != total {
			w.fail("T2: something was sent")
		}
		if p, _ := w.f.Present(); p.Number != present.Number || p.Index != present.Index || len(p.Leaves) != len(present.Leaves) {
			w.fail("T2: the present epoch changed")
		}
		p, ok := w.f.Prepared()
		if e != want && !(want == api.ErrBank && e == api.OK) || ok != (e == api.OK) {
			w.fail("T2: outcome", e, want)
		}
		w.found["outcome "+string(rune('a'+int(e)))]++
		if e != api.OK {
			if got := w.f.trace[trace:]; len(got) != 1 || got[0].Kind != api.NoteRefuse || got[0].Why != int(e) {
				w.fail("T2: notes", got)
			}
			return
		}
		for range 40 {
			w.says(p, entries, w.noise.head())
		}
		for _, l := range p.Leaves {
			for _, r := range l.Rules {
				w.says(p, entries, r.Cube.Value)
			}
			w.says(p, entries, l.Cube.Value)
		}
	}
}

// says: a table says of a header what the text says.
func (w *watch) says(p api.Epoch, entries []api.Entry, h api.Header) {
	i, ok := cut.Find(p.Leaves, h)
	if !ok {
		w.fail("T2: no leaf", h)
	}
	r, ok := flat.Look(p.Leaves[i].Rules, h)
	want, _ := sense.Says(entries, h)
	if !ok || r.Action != want {
		w.fail("T2: the table says otherwise", h, r, want)
	}
}

// reads goes through the notes that a step brought.
func (w *watch) reads(x api.Step, number int) {
	notes := w.f.trace
	for ; w.read < len(notes); w.read++ {
		n := notes[w.read]
		switch n.Kind {
		case api.NoteAccept:
			entries, e, _ := sense.Read(x.Text)
			if x.Kind != api.StepPolicy || e != api.OK || w.committed != len(w.policies) || n.Index != len(w.policies)+1 {
				w.fail("T1: accept", n)
			}
			w.policies = append(w.policies, entries)
		case api.NoteCommit:
			if n.Index != len(w.policies) || n.Index == w.committed {
				w.fail("T1: commit", n)
			}
			w.committed = n.Index
		case api.NoteInject:
			w.open[n.Index] = came{at: n.At, when: w.f.Now(), committed: w.committed, head: n.Head}
			if n.Index != number || w.over[n.Index] {
				w.fail("T3: inject", n)
			}
		case api.NoteEmit:
			w.emits(n)
		case api.NoteDrop:
			w.drops(n, number)
		case api.NoteRedirect:
			w.redirects(n, x)
		case api.NoteLearn:
			w.acts(n)
		case api.NoteCrash:
			for index, c := range w.open {
				if c.at == n.At {
					w.fail("T6: open behind a crash", index, c)
				}
			}
			delete(w.led, n.At)
		case api.NoteStart:
			w.begun[n.At] = number
			delete(w.led, n.At)
		case api.NoteFull:
			w.fail("T2: a bank is full", n)
		}
		w.found["note "+string(rune('a'+n.Kind))]++
	}
}

// may are the policies that may have a word in one that is open.
func (w *watch) may(c came) [][]api.Entry {
	if len(w.policies) == 0 {
		return nil
	}
	return w.policies[max(1, c.committed)-1:]
}

func (w *watch) emits(n api.Note) {
	c, ok := w.open[n.Index]
	if !ok || c.at != n.At || w.over[n.Index] {
		w.fail("T3: emitted, but not open there", n, c)
	}
	w.acts(n)
	if !slices.ContainsFunc(w.may(c), func(l []api.Entry) bool {
		a, _ := sense.Says(l, c.head)
		return a == n.Action
	}) {
		w.fail("T1: no policy says so", n, c)
	}
	if len(w.may(c)) > 1 {
		w.found["two may"]++
	}
	delete(w.open, n.Index)
	w.over[n.Index] = true
}

// acts: a switch may do something only with a lead that was sent in its life, less than Lease ago.
func (w *watch) acts(n api.Note) {
	sent, ok := w.led[n.At]
	if !ok || w.f.Now()-sent >= w.s.Lease || !w.f.Status(n.At).Up {
		w.fail("T6: no lead", n, sent, ok)
	}
}

func (w *watch) drops(n api.Note, number int) {
	c, ok := w.open[n.Index]
	if !ok || c.at != n.At || w.over[n.Index] {
		w.fail("T3: dropped, but not open there", n, c)
	}
	age := w.f.Now() - c.when
	switch n.Why {
	case api.WhyDown, api.WhyLease, api.WhyNone:
		if n.Index != number {
			w.fail("T5: not in that step", n, c)
		}
	case api.WhyFull:
		if n.Index != number || len(w.f.Waiting(n.At)) != w.s.Wait {
			w.fail("T8: refused with room", n, c)
		}
	case api.WhyLate:
		if age != (w.s.Tries+1)*w.s.Time {
			w.fail("T5: late", n, c)
		}
	case api.WhyCrash:
	default:
		w.fail("why", n)
	}
	w.found["why "+string(rune('a'+n.Why))]++
	delete(w.open, n.Index)
	w.over[n.Index] = true
}

func (w *watch) redirects(n api.Note, x api.Step) {
	c, ok := w.open[n.Index]
	c.redirects++
	if !ok || c.at != n.At || c.redirects > w.s.Tries+1 || n.To < 1 || n.To > w.s.Authorities {
		w.fail("T3: redirected", n, c)
	}
	if x.Kind != api.StepInject && x.Kind != api.StepTick {
		w.fail("T3: redirected by a letter", n, x)
	}
	w.open[n.Index] = c
}

// bounds are those of T3, T4 and T5 at each moment.
func (w *watch) bounds() {
	waits := 0
	for n := 1; n <= w.s.Switches; n++ {
		list := w.f.Waiting(n)
		if len(list) > w.s.Wait {
			w.fail("T4: too many wait", n)
		}
		for _, a := range list {
			c, ok := w.open[a.Index]
			if !ok || c.at != n || c.head != a.Head {
				w.fail("T3: who waits isn't open", a, c)
			}
			if w.f.Now()-c.when >= (w.s.Tries+1)*w.s.Time {
				w.fail("T5: it waits for too long", a, c)
			}
		}
		waits += len(list)
		x := w.f.Status(n)
		if x.Cache > w.s.Cache || x.Auth > w.s.Auth || x.Part > w.s.Part || x.Cache != len(w.f.Slots(n, api.Cache)) || x.Auth != len(w.f.Slots(n, api.Auth)) || x.Part != len(w.f.Slots(n, api.Part)) {
			w.fail("T4: a bank", n, x)
		}
	}
	if waits != len(w.open) {
		w.fail("T3: neither over, nor waiting", w.open)
	}
	for from := range w.s.Switches + 1 {
		for to := range w.s.Switches + 1 {
			if w.f.Count(from, to) > w.s.Queue {
				w.fail("T4: a link", from, to)
			}
		}
	}
}

// settles lets all be up, and the calm last as long as Soon says; then T7 and T8 hold.
func (w *watch) settles() {
	for n := 1; n <= w.s.Switches; n++ {
		if !w.f.Status(n).Up {
			w.step(start(n))
		}
	}
	for range Soon(w.s) {
		w.round()
	}
	p, there := w.f.Present()
	if _, under := w.f.Prepared(); under || w.committed != len(w.policies) || w.f.Accepted() != len(w.policies) || there != (len(w.policies) > 0) {
		w.fail("T7: under way", p)
	}
	for n := 1; n <= w.s.Switches; n++ {
		if x := w.f.Status(n); x.Live != there || x.Use != p.Number || x.Wait != 0 {
			w.fail("T7: not settled", n, x, p.Number)
		}
	}
	if there {
		w.serves()
	}
}

// serves is T8: each is emitted as the last policy says, or refused at once.
func (w *watch) serves() {
	last := w.policies[len(w.policies)-1]
	for range 8 {
		want := map[int]int{}
		for range 1 + w.noise.below(3*w.s.Wait) {
			h, number, at := w.noise.head(), w.f.Steps(), 1+w.noise.below(w.s.Switches)
			waited := len(w.f.Waiting(at))
			w.step(inject(at, h))
			if !slices.Contains(w.f.trace, api.Note{Kind: api.NoteDrop, At: at, Index: number, Why: api.WhyFull}) {
				want[number], _ = sense.Says(last, h)
			} else if waited != w.s.Wait {
				w.fail("T8: refused")
			}
		}
		w.round()
		for _, n := range w.f.trace {
			if a, ok := want[n.Index]; ok && n.Kind == api.NoteEmit {
				if n.Action != a {
					w.fail("T8: emitted", n, a)
				}
				delete(want, n.Index)
			}
			if _, ok := want[n.Index]; ok && n.Kind == api.NoteDrop {
				w.fail("T8: dropped", n)
			}
		}
		if len(want)+len(w.open) != 0 {
			w.fail("T8: somebody waits", want, w.open)
		}
	}
}

// TestTheorems: T1 to T8 behind any steps.
func TestTheorems(t *testing.T) {
	found := map[string]int{}
	for seed := range 60 {
		noise := seeded(1000 + seed)
		w := newWatch(t, noise.setup(), seed, noise, found)
		for range 2 {
			for range 250 {
				w.step(noise.step(w.f))
			}
			w.settles()
		}
	}
	for _, what := range []string{"two may", "outcome a", "why b", "why c", "why d", "why e", "why f", "note k", "note l", "note p", "note q", "note t"} {
		if found[what] < 10 {
			t.Error("seldom:", what, found[what])
		}
	}
}

// TestTheoremsFull: so it is behind links that are all full of what says nothing.
func TestTheoremsFull(t *testing.T) {
	for seed := range 3 {
		noise := seeded(2000 + seed)
		s := noise.setup()
		s.Switches, s.Queue = 6, 60
		w := newWatch(t, s, seed, noise, map[string]int{})
		w.step(policy(halves))
		w.step(calm(3))
		for from := range s.Switches + 1 {
			for to := range s.Switches + 1 {
				fills(t, w.f, from, to)
			}
		}
		w.settles()
	}
}

// TestT6: what was sent to a life that is over says nothing to the next one, though it has all that an epoch needs.
func TestT6(t *testing.T) {
	f := fresh(t, setup())
	does(t, f, policy(does80), api.OK)
	var kept []string
	for range 12 {
		does(t, f, tick(), api.OK)
		for f.links.Total() > 0 {
			from, to, _ := f.links.Oldest()
			if s, _ := f.Peek(from, to, 0); from == 0 && to == 3 {
				kept = append(kept, s)
			}
			does(t, f, deliver(from, to), api.OK)
		}
	}
	if x := f.Status(3); !x.Live || len(kept) < 5 {
		t.Fatal(x, len(kept))
	}
	does(t, f, crash(3), api.OK)
	does(t, f, start(3), api.OK)
	for _, s := range kept {
		f.links.Send(0, 3, s)
		wantDoing(t, f, deliver(0, 3), api.OK, api.Note{Kind: api.NoteStale, At: 3})
	}
	if why := dropped(t, f, 3, port(80)); why != api.WhyLease || f.Status(3) != (api.Status{Up: true, Inc: 2}) {
		t.Error(why, f.Status(3))
	}
	does(t, f, calm(5), api.OK)
	asks(t, f, port(80))
}

// alike is what T9 is about: a fabric whose leaves are cut anew, and whose weights are changed, while time goes on calmly.
type alike struct {
	w     *watch
	noise *noise
	got   []api.Note // of each header how it ended
}

// calmly injects one header at a switch, does something else now and then, and lets a round go by.
func (a *alike) calmly(at int, h api.Header, other bool) {
	if other {
		switch a.noise.below(3) {
		case 0:
			a.w.step(recut())
		case 1:
			a.w.step(hint(1+a.noise.below(a.w.s.Authorities), a.noise.weight()))
		}
	}
	number := a.w.f.Steps()
	a.w.step(inject(at, h))
	a.w.round()
	over := of(a.w.f.trace, number)
	if len(over) != 1 || over[0].Kind != api.NoteEmit {
		a.w.fail("T9: dropped, or late", over)
	}
	over[0].Index = 0
	a.got = append(a.got, over[0])
}

// TestT9: caches, cuts and weights change nothing of what is emitted, and nothing is dropped for an update.
func TestT9(t *testing.T) {
	for seed := range 12 {
		var worlds []*alike
		for i := range 4 {
			noise := seeded(3000 + seed)
			s := noise.setup()
			s.Auth = 16
			if i > 0 {
				other := seeded(4000 + 10*seed + i).setup()
				s.Cache, s.Idle, s.Hard, s.Grain, s.Bias, s.Window, s.Queue = other.Cache, other.Idle, other.Hard, other.Grain, other.Bias, other.Window, 60
			}
			worlds = append(worlds, &alike{w: newWatch(t, s, seed, noise, map[string]int{}), noise: seeded(5000 + 10*seed + i)})
		}
		script := seeded(6000 + seed)
		texts := []string{halves, does80, many(2 + script.below(6)), "default -> port 7", many(3)}
		for k, text := range texts {
			for _, a := range worlds {
				if e := a.w.step(policy(text)); e != api.OK {
					a.w.fail("policy", e)
				}
				if k == 0 {
					a.w.settles()
				}
				// While the update is under way headers come too, and none is dropped.
				for {
					if _, under := a.w.f.Prepared(); !under {
						break
					}
					a.calmly(1+a.noise.below(a.w.s.Switches), a.noise.head(), false)
				}
				a.got = nil
			}
			for range 30 {
				at, h := 1+script.below(worlds[0].w.s.Switches), script.head()
				for i, a := range worlds {
					a.calmly(at, h, i > 0)
				}
			}
			for i, a := range worlds {
				if !slices.Equal(a.got, worlds[0].got) {
					a.w.fail("T9: emitted otherwise", i)
				}
				for range 99 {
					if _, under := a.w.f.Prepared(); !under {
						break
					}
					a.w.round()
				}
			}
		}
	}
}

// TestT10: one authority falls; headers elsewhere are emitted as the policy says, and all others settle without it.
func TestT10(t *testing.T) {
	for seed := range 20 {
		noise := seeded(7000 + seed)
		s := noise.setup()
		s.Auth, s.Cache = 16, noise.below(3)
		w := newWatch(t, s, seed, noise, map[string]int{})
		w.step(policy(many(1 + noise.below(6))))
		w.settles()
		falls := 1 + noise.below(s.Authorities)
		w.step(crash(falls))
		ahead := len(w.f.trace)
		for range Soon(s) {
			at := 1 + noise.below(s.Switches)
			for at == falls {
				at = 1 + noise.below(s.Switches)
			}
			if len(w.f.Waiting(at)) < s.Wait {
				w.step(inject(at, noise.head()))
			}
			w.round()
		}
		for range (s.Tries + 1) * s.Time {
			w.round()
		}
		for _, n := range w.f.trace[ahead:] {
			if n.Kind == api.NoteDrop {
				w.fail("T10: dropped", n)
			}
		}
		p, _ := w.f.Present()
		if _, under := w.f.Prepared(); under || slices.Contains(holders(w.f), falls) {
			w.fail("T10: not settled", p)
		}
		for n := 1; n <= s.Switches; n++ {
			if x := w.f.Status(n); n != falls && (!x.Live || x.Use != p.Number) {
				w.fail("T10: not settled", n, x)
			}
		}
		w.settles()
		if len(holders(w.f)) < 2 || slices.Contains(holders(w.f), 0) {
			w.fail("T10: it isn't dealt to all again")
		}
	}
}

// TestT10All: with all authorities down what the cache has is emitted, all else is dropped.
func TestT10All(t *testing.T) {
	for seed := range 10 {
		noise := seeded(8000 + seed)
		s := noise.setup()
		s.Switches, s.Authorities, s.Cache, s.Auth, s.Idle, s.Hard = 4, 2, 3, 8, 0, 0
		w := newWatch(t, s, seed, noise, map[string]int{})
		w.step(policy(does80))
		w.settles()
		w.step(crash(1))
		w.step(crash(2))
		for range 100 {
			at, h := 3+noise.below(2), noise.head()
			cached := slices.ContainsFunc(w.f.Slots(at, api.Cache), func(x api.Slot) bool { return cube.Has(x.Cube, h) })
			number := w.f.Steps()
			w.step(inject(at, h))
			w.step(calm((s.Tries + 1) * s.Time))
			over := of(w.f.trace, number)
			if len(over) != 1 || (over[0].Kind == api.NoteEmit) != cached || !cached && over[0].Why != api.WhyLate {
				w.fail("T10: guessed", over, cached)
			}
		}
	}
}

// decodedOr is the message that bytes are; true: they are none.
func decodedOr(data string) (api.Msg, bool) {
	m, e := msg.Decode([]byte(data))
	return m, e != api.OK
}
