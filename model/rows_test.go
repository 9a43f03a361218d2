package model

import (
	"slices"
	"testing"

	"milepost/api"
)

// noise is a row of numbers without a pattern, always the same one.
type noise uint64

func (n *noise) next() uint64 {
	*n ^= *n << 13
	*n ^= *n >> 7
	*n ^= *n << 17
	return uint64(*n)
}

func (n *noise) below(many int) int {
	return int(n.next() >> 11 % uint64(many))
}

// pick is one of some.
func pick[T any](n *noise, some ...T) T {
	return some[n.below(len(some))]
}

// entries is a policy of few words, with a default mostly.
func (n *noise) entries() []api.Entry {
	var out []api.Entry
	for range n.below(3) {
		low := 80 + n.below(3)
		out = append(out, api.Entry{Prio: n.below(3), SHigh: 65535, DLow: low, DHigh: low + n.below(2), Proto: pick(n, -1, 6, 7), Action: n.below(5)})
	}
	if n.below(5) > 0 {
		out = append(out, api.Entry{Default: true, Action: n.below(5)})
	}
	return out
}

// pair is a model beside the reckoning of the same calls.
type pair struct {
	t     *testing.T
	noise *noise
	m     *Model
	p     *plain
	seen  map[string]int
}

// same holds two answers against each other.
func (x *pair) same(what string, got bool, want bool) {
	x.t.Helper()
	if got != want {
		x.t.Fatalf("%s: %v, want %v, behind %+v", what, got, want, x.p.row)
	}
	if got {
		x.seen[what]++
	} else {
		x.seen["no "+what]++
	}
}

// index is mostly that of an injection that came.
func (x *pair) index() int {
	if l := x.p.open(); len(l) > 0 && x.noise.below(3) > 0 {
		return l[x.noise.below(len(l))]
	}
	return pick(x.noise, pick(x.noise, far()...), x.noise.below(40), -x.noise.below(9))
}

// call is one of those that may change something.
func (x *pair) call() {
	n := x.noise
	switch k := n.below(40); {
	case k < 6:
		l := n.entries()
		x.same("accept", x.m.Accept(l), x.p.accept(l))
		for i := range l {
			l[i] = api.Entry{Default: true, Action: 77}
		}
	case k < 12:
		index := x.p.accepted()
		if n.below(3) == 0 {
			index = pick(n, index-1, index+1, pick(n, far()...))
		}
		x.same("commit", x.m.Commit(index), x.p.commit(index))
	case k < 24:
		index, h := pick(n, n.below(60), pick(n, far()...)), port(80+n.below(4))
		x.same("inject", x.m.Inject(index, h), x.p.inject(index, h))
	case k < 36:
		index, action := x.index(), pick(n, n.below(6), n.below(6), -1, 77, pick(n, far()...))
		may := len(x.p.may(index))
		got := x.m.Emit(index, action)
		x.same("emit", got, x.p.emit(index, action))
		if got && may > 1 {
			x.seen["two may"]++
		}
	default:
		index := x.index()
		x.same("drop", x.m.Drop(index), x.p.drop(index))
	}
}

// looks compares all that can be asked.
func (x *pair) looks() {
	x.t.Helper()
	if got, want := x.m.Open(), x.p.open(); !slices.Equal(got, want) {
		x.t.Fatalf("Open: %v, want %v", got, want)
	}
	if x.m.Accepted() != x.p.accepted() || x.m.Committed() != x.p.committed() {
		x.t.Fatal("numbers:", x.m.Accepted(), x.p.accepted(), x.m.Committed(), x.p.committed())
	}
	index := x.index()
	got, want := x.m.May(index), x.p.may(index)
	if !slices.Equal(got, want) {
		x.t.Fatalf("May(%d): %v, want %v", index, got, want)
	}
	for i := range got {
		got[i] = -5
	}
	x.follows()
}

// follows is P24.4.
func (x *pair) follows() {
	for _, index := range x.p.open() {
		ahead := x.p.row[:x.p.came(index)]
		committed := often(ahead, committing)
		if committed == 0 || often(ahead, accepting) > committed || x.p.accepted() > committed {
			continue
		}
		x.seen["just one"]++
		if l := x.m.May(index); len(l) != 1 || l[0] != committed {
			x.t.Fatalf("P24.4: May(%d): %v, want %d", index, l, committed)
		}
	}
}

// TestRows holds long rows of calls against the reckoning.
func TestRows(t *testing.T) {
	n := noise(24)
	seen := map[string]int{}
	for range 60 {
		x := &pair{t: t, noise: &n, m: New(), p: &plain{}, seen: seen}
		for range 250 {
			x.call()
			x.looks()
		}
	}
	for _, what := range []string{"accept", "no accept", "commit", "no commit", "inject", "no inject", "emit", "no emit", "drop", "no drop", "two may", "just one"} {
		if seen[what] < 100 {
			t.Error("seldom:", what, seen[what])
		}
	}
}
