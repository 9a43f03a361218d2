package model

import (
	"slices"
	"testing"

	"milepost/api"
	"milepost/fabric"
	"milepost/sense"
)

// watch follows a fabric's trace with a model (T1).
type watch struct {
	t    *testing.T
	f    *fabric.Fabric
	m    *Model
	s    api.Setup
	read int // how many notes
	seen map[string]int
}

// small is a setup of short times and small rooms.
func (n *noise) small() api.Setup {
	s := api.Setup{Switches: 2 + n.below(3), Authorities: 2, Cache: n.below(4), Auth: 12, Part: 8, Grain: 1, Window: 1 + n.below(6), Queue: 40, Wait: 1 + n.below(3), Tries: 1, Time: 2 + n.below(5), Beat: 1, Lease: 3 + n.below(5), Lost: 3 + n.below(5)}
	s.Idle, s.Hard = pick(n, 0, 2, 4), pick(n, 0, 5)
	return s
}

func newWatch(t *testing.T, s api.Setup, seen map[string]int) *watch {
	t.Helper()
	f, e := fabric.New(s)
	if e != api.OK {
		t.Fatal(s, e)
	}
	return &watch{t: t, f: f, m: New(), s: s, seen: seen}
}

// step does one; what is to be seen of it may happen, and who waits is who is open.
func (w *watch) step(x api.Step) {
	w.t.Helper()
	w.f.Do(x)
	notes := w.f.Trace()
	for ; w.read < len(notes); w.read++ {
		if !w.happens(notes[w.read], x.Text) {
			w.t.Fatalf("step %d, %+v: note %+v may not be; may %v", w.f.Steps()-1, x, notes[w.read], w.m.May(notes[w.read].Index))
		}
	}
	var waits []int
	for n := 1; n <= w.s.Switches; n++ {
		for _, a := range w.f.Waiting(n) {
			waits = append(waits, a.Index)
		}
	}
	slices.Sort(waits)
	if l := w.m.Open(); !slices.Equal(l, waits) {
		w.t.Fatalf("step %d, %+v: open %v, but %v wait", w.f.Steps()-1, x, l, waits)
	}
	if a := w.f.Accepted(); a != w.m.Accepted() {
		w.t.Fatalf("step %d, %+v: accepted %d, %d", w.f.Steps()-1, x, w.m.Accepted(), a)
	}
	if p, _ := w.f.Present(); p.Index != w.m.Committed() {
		w.t.Fatalf("step %d, %+v: committed %d, present %d", w.f.Steps()-1, x, w.m.Committed(), p.Index)
	}
}

// happens tells the model of a note; the text is the policy that the step hands in, if it does.
func (w *watch) happens(n api.Note, text string) bool {
	switch n.Kind {
	case api.NoteAccept:
		l, e, _ := sense.Read(text)
		return e == api.OK && w.m.Accept(l) && w.m.Accepted() == n.Index
	case api.NoteCommit:
		w.seen["committed"]++
		return w.m.Commit(n.Index)
	case api.NoteInject:
		return w.m.Inject(n.Index, n.Head)
	case api.NoteEmit:
		if l := w.m.May(n.Index); len(l) > 1 {
			w.seen["two may"]++
		}
		w.seen["emitted"]++
		return w.m.Emit(n.Index, n.Action)
	case api.NoteDrop:
		w.seen["dropped"]++
		return w.m.Drop(n.Index)
	}
	return true
}

// letter is a step with a letter, the first of a link mostly, of a link that has some, if it finds one.
func (n *noise) letter(w *watch, kind int) api.Step {
	from, to := 0, 0
	for range 30 {
		if from, to = n.below(w.s.Switches+1), n.below(w.s.Switches+1); w.f.Count(from, to) > 0 {
			break
		}
	}
	return api.Step{Kind: kind, From: from, To: to, I: pick(n, 0, 0, 0, n.below(4))}
}

func (n *noise) text() string {
	return pick(n, "default -> port 7", "default -> drop", "default -> x", "5 dport 80 -> port 2\ndefault -> drop",
		"5 dport 80-81 -> port 3\n9 src 128.0.0.0/1 -> port 4\ndefault -> port 1", "1 dport 81 -> drop\ndefault -> port 5")
}

func (n *noise) step(w *watch) api.Step {
	at := 1 + n.below(w.s.Switches)
	switch k := n.below(100); {
	case k < 50:
		return n.letter(w, api.StepDeliver)
	case k < 62:
		return api.Step{Kind: api.StepTick}
	case k < 82:
		return api.Step{Kind: api.StepInject, At: at, Head: port(80 + n.below(3))}
	case k < 85:
		return n.letter(w, api.StepLose)
	case k < 88:
		return n.letter(w, api.StepTwice)
	case k == 88:
		return api.Step{Kind: api.StepCrash, At: at}
	case k < 92:
		return api.Step{Kind: api.StepStart, At: at}
	case k < 95:
		return api.Step{Kind: api.StepPolicy, Text: n.text()}
	case k == 95:
		return api.Step{Kind: api.StepCut}
	case k == 96:
		return api.Step{Kind: api.StepHint, At: at, Weight: float64(n.below(9))}
	}
	return api.Step{Kind: api.StepCalm, N: n.below(3)}
}

// TestT1: what is to be seen of a fabric is a run of the model.
func TestT1(t *testing.T) {
	n := noise(20261119)
	seen := map[string]int{}
	for range 160 {
		w := newWatch(t, n.small(), seen)
		for range 300 {
			w.step(n.step(w))
		}
		for at := range w.s.Switches {
			w.step(api.Step{Kind: api.StepStart, At: at + 1})
		}
		w.step(api.Step{Kind: api.StepCalm, N: fabric.Soon(w.s)})
		if w.m.Committed() != w.m.Accepted() || len(w.m.Open()) != 0 {
			t.Fatal("not settled:", w.m.Committed(), w.m.Accepted(), w.m.Open())
		}
		w.justOne(&n)
	}
	for _, what := range []string{"committed", "two may", "emitted", "dropped", "just one"} {
		if seen[what] < 100 {
			t.Error("seldom:", what, seen[what])
		}
	}
}

// justOne: in the calm just the last policy may have a word in what comes.
func (w *watch) justOne(n *noise) {
	if w.m.Accepted() == 0 {
		return
	}
	for range 5 {
		index := w.f.Steps()
		w.step(api.Step{Kind: api.StepInject, At: 1 + n.below(w.s.Switches), Head: port(80 + n.below(3))})
		if l := w.m.May(index); len(l) == 1 && l[0] == w.m.Accepted() {
			w.seen["just one"]++
		} else if len(l) > 0 {
			w.t.Error("May:", l)
		}
		w.step(api.Step{Kind: api.StepCalm, N: 1})
	}
}

// TestT1Example: DOC.md's sixth example, a header that waits while a second policy is accepted, and one that comes behind its Commit.
func TestT1Example(t *testing.T) {
	s := api.Setup{Switches: 3, Authorities: 2, Cache: 4, Auth: 8, Part: 4, Grain: 1, Window: 4, Queue: 64, Wait: 2, Tries: 1, Time: 9, Beat: 1, Lease: 3, Lost: 3}
	w := newWatch(t, s, map[string]int{})
	w.step(api.Step{Kind: api.StepPolicy, Text: "default -> port 7"})
	w.step(api.Step{Kind: api.StepCalm, N: 9})
	w.step(api.Step{Kind: api.StepInject, At: 3, Head: port(1)})
	wantMay(t, w.m, 2, 1)
	w.step(api.Step{Kind: api.StepPolicy, Text: "default -> port 8"})
	wantMay(t, w.m, 2, 1, 2)
	wantAll(t, w.m, 2, 1, 2)
	w.step(api.Step{Kind: api.StepLose, From: 3, To: 1})
	w.step(api.Step{Kind: api.StepCalm, N: 8})
	wantAll(t, w.m, 2, 2, 2)
	w.step(api.Step{Kind: api.StepInject, At: 3, Head: port(2)})
	wantMay(t, w.m, 2, 1, 2)
	wantMay(t, w.m, 6, 2)
	w.step(api.Step{Kind: api.StepCalm, N: 5})
	wantAll(t, w.m, 2, 2)
}
