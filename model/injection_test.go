package model

import (
	"math"
	"testing"

	"milepost/api"
)

func TestP242Inject(t *testing.T) {
	m := under(t, 1, 1)
	all := far()
	for _, n := range all {
		is(t, "new", m.Inject(n, port(1)), true)
		is(t, "open", m.Inject(n, port(1)), false)
		is(t, "open, with another header", m.Inject(n, port(2)), false)
	}
	for i, n := range all {
		if i%2 == 0 {
			is(t, "Emit", m.Emit(n, 1), true)
		} else {
			is(t, "Drop", m.Drop(n), true)
		}
		is(t, "over", m.Inject(n, port(1)), false)
		wantMay(t, m, n)
		is(t, "Emit of what is over", m.Emit(n, 1), false)
	}
	wantAll(t, m, 1, 1)
	commits(t, accepted(t, m, 2), 2)
	for _, n := range all {
		is(t, "over, under another policy", m.Inject(n, port(1)), false)
	}
	is(t, "new", m.Inject(50, port(1)), true)
	wantAll(t, m, 2, 2, 50)
}

// accepted is a model that has accepted one more.
func accepted(t *testing.T, m *Model, action int) *Model {
	t.Helper()
	accepts(t, m, to(action))
	return m
}

// TestP242InjectKeeps: one that may not come again keeps its header and its policies.
func TestP242InjectKeeps(t *testing.T) {
	m := New()
	accepts(t, m, read(t, "5 dport 80 -> port 1\ndefault -> drop"))
	commits(t, m, 1)
	injects(t, m, 3, port(80))
	accepts(t, m, read(t, "5 dport 80 -> port 2\ndefault -> port 9"))
	commits(t, m, 2)
	is(t, "open", m.Inject(3, port(81)), false)
	wantMay(t, m, 3, 1, 2)
	is(t, "the other header's", m.Emit(3, 9), false)
	is(t, "the other header's", m.Emit(3, 0), false)
	is(t, "its own, by the first policy", m.Emit(3, 1), true)
}

// TestP242InjectFirst: it may come ahead of all policies.
func TestP242InjectFirst(t *testing.T) {
	m := New()
	is(t, "Inject", m.Inject(1, port(80)), true)
	is(t, "Inject", m.Inject(2, port(80)), true)
	is(t, "Inject", m.Inject(3, port(80)), true)
	wantAll(t, m, 0, 0, 1, 2, 3)
	wantMay(t, m, 1)
	for _, a := range far() {
		is(t, "nobody says anything", m.Emit(1, a), false)
	}
	is(t, "Drop", m.Drop(1), true)
	accepts(t, m, to(4))
	is(t, "Emit, not committed", m.Emit(2, 4), true)
	commits(t, m, 1)
	accepts(t, m, to(5))
	commits(t, m, 2)
	wantMay(t, m, 3, 1, 2)
	is(t, "Emit", m.Emit(3, 4), true)
	wantAll(t, m, 2, 2)
}

// TestP242Header: what is said hangs on the header that came, with all its bits.
func TestP242Header(t *testing.T) {
	m := New()
	accepts(t, m, read(t, "9 dport 80 -> port 1\n9 src 10.0.0.0/8 -> port 2\n8 proto 6 -> port 3\ndefault -> drop"))
	commits(t, m, 1)
	rows := []struct {
		h    api.Header
		want int
	}{
		{api.Header{10, 0, 0, 1, 1, 2, 3, 4, 0, 9, 0, 80, 6}, 1},
		{api.Header{10, 0, 0, 1, 1, 2, 3, 4, 0, 9, 0, 81, 6}, 2},
		{api.Header{11, 0, 0, 1, 1, 2, 3, 4, 0, 9, 0, 81, 6}, 3},
		{api.Header{11, 0, 0, 1, 1, 2, 3, 4, 0, 9, 0, 81, 7}, 0},
		{api.Header{}, 0},
	}
	for i, x := range rows {
		injects(t, m, i, x.h)
	}
	for i, x := range rows {
		for a := -1; a < 5; a++ {
			if a != x.want {
				is(t, "another action", m.Emit(i, a), false)
			}
		}
		is(t, "its action", m.Emit(i, x.want), true)
	}
}

// TestP242EmitWho: the first, a middle and the last policy that may have a word, and none other.
func TestP242EmitWho(t *testing.T) {
	m := under(t, 2, 2)
	for n := range 5 {
		injects(t, m, n, port(1))
	}
	for i := 3; i <= 5; i++ {
		accepts(t, m, to(i))
		if i < 5 {
			commits(t, m, i)
		}
	}
	wantMay(t, m, 0, 2, 3, 4, 5)
	for _, a := range []int{0, 1, 6, -2, math.MinInt, math.MaxInt} {
		is(t, "nobody's action, or the first policy's, whose next one was committed", m.Emit(0, a), false)
	}
	wantAll(t, m, 5, 4, 0, 1, 2, 3, 4)
	wantMay(t, m, 0, 2, 3, 4, 5)
	is(t, "the first one's", m.Emit(0, 2), true)
	is(t, "a middle one's", m.Emit(1, 3), true)
	is(t, "a middle one's", m.Emit(2, 4), true)
	is(t, "the last one's", m.Emit(3, 5), true)
	wantAll(t, m, 5, 4, 4)
	is(t, "it stays open", m.Emit(4, 2), true)
	wantAll(t, m, 5, 4)
}

// TestP242EmitDrop: that a policy drops is an action as well; that it says nothing is none.
func TestP242EmitDrop(t *testing.T) {
	m := New()
	accepts(t, m, []api.Entry{{Prio: 1, SHigh: 65535, DLow: 80, DHigh: 80, Proto: -1, Action: 3}})
	commits(t, m, 1)
	injects(t, m, 1, port(81))
	injects(t, m, 2, port(80))
	injects(t, m, 3, port(81))
	wantMay(t, m, 1, 1)
	for a := -1; a < 5; a++ {
		is(t, "of port 81 nothing is said", m.Emit(1, a), false)
	}
	is(t, "of port 80 something is", m.Emit(2, 0), false)
	is(t, "of port 80 something is", m.Emit(2, 3), true)
	accepts(t, m, nil)
	is(t, "an empty list says nothing", m.Emit(1, 0), false)
	commits(t, m, 2)
	accepts(t, m, to(0))
	is(t, "dropped as the third one says", m.Emit(1, 0), true)
	is(t, "not as the first one says of others", m.Emit(3, 3), false)
	is(t, "Drop", m.Drop(3), true)
}

// TestP242Over: what is over, or never came, is neither emitted nor dropped.
func TestP242Over(t *testing.T) {
	m := under(t, 2, 1)
	injects(t, m, 1, port(1))
	injects(t, m, 2, port(1))
	injects(t, m, 3, port(1))
	is(t, "Emit", m.Emit(1, 1), true)
	is(t, "Drop", m.Drop(2), true)
	wantAll(t, m, 2, 1, 3)
	for _, n := range append(far(), 1, 2) {
		if n == 3 {
			continue
		}
		for a := range 4 {
			is(t, "Emit", m.Emit(n, a), false)
		}
		is(t, "Drop", m.Drop(n), false)
	}
	wantAll(t, m, 2, 1, 3)
	wantMay(t, m, 3, 1, 2)
	is(t, "Drop", m.Drop(3), true)
	is(t, "Drop once more", m.Drop(3), false)
	is(t, "Emit behind it", m.Emit(3, 1), false)
	wantAll(t, m, 2, 1)
}

// TestP242Apart: what happens to one is nothing to another one.
func TestP242Apart(t *testing.T) {
	m := under(t, 1, 1)
	for n := range 100 {
		injects(t, m, n, port(n))
	}
	for n := 1; n < 100; n += 3 {
		is(t, "Emit", m.Emit(n, 1), true)
		is(t, "Drop", m.Drop(n+1), true)
	}
	var want []int
	for n := 0; n < 100; n += 3 {
		want = append(want, n)
		wantMay(t, m, n, 1)
	}
	wantAll(t, m, 1, 1, want...)
}
