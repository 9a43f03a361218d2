package wait

import (
	"testing"

	"milepost/api"
)

// What the tests reckon with: all that ever came, each with what became of it, gone through from the first one on each time; nobody is taken from the row.

type fate int

const (
	waits fate = iota
	answered
	givenUp
	cleared
)

type came struct {
	asked api.Asked
	fate  fate
}

type model struct {
	room, tries, time int
	all               []*came
}

// tick is a time as it counts.
func tick(now int) int {
	switch {
	case now < 0:
		return 0
	case now > 1<<40:
		return 1 << 40
	}
	return now
}

func (m *model) list() []api.Asked {
	var out []api.Asked
	for _, x := range m.all {
		if x.fate == waits {
			out = append(out, x.asked)
		}
	}
	return out
}

func (m *model) add(index int, h api.Header, now int) (int, api.Errno) {
	if len(m.list()) >= m.room {
		return 0, api.ErrFull
	}
	seq := len(m.all) + 1
	m.all = append(m.all, &came{asked: api.Asked{Seq: seq, Index: index, Head: h, Sent: 1, Due: tick(now) + m.time}})
	return seq, api.OK
}

func (m *model) answer(seq int) (api.Asked, bool) {
	for _, x := range m.all {
		if x.asked.Seq == seq && x.fate == waits {
			x.fate = answered
			return x.asked, true
		}
	}
	return api.Asked{}, false
}

func (m *model) tick(now int) ([]api.Asked, []api.Asked) {
	var again, over []api.Asked
	for _, x := range m.all {
		if x.fate != waits || x.asked.Due > tick(now) {
			continue
		}
		if x.asked.Sent <= m.tries {
			x.asked.Sent, x.asked.Due = x.asked.Sent+1, tick(now)+m.time
			again = append(again, x.asked)
		} else {
			x.fate = givenUp
			over = append(over, x.asked)
		}
	}
	return again, over
}

func (m *model) clear() []api.Asked {
	out := m.list()
	for _, x := range m.all {
		if x.fate == waits {
			x.fate = cleared
		}
	}
	return out
}

// noise is a row of numbers without a pattern, always the same one.
type noise uint64

func (n *noise) next() uint64 {
	*n ^= *n << 13
	*n ^= *n >> 7
	*n ^= *n << 17
	return uint64(*n)
}

func (n *noise) below(many int) int {
	return int(n.next() >> 11 % uint64(many))
}

// number is one of any size.
func (n *noise) number() int {
	all := far()
	return all[n.below(len(all))]
}

// TestReckoning holds the reckoning itself against the chapter's example.
func TestReckoning(t *testing.T) {
	m := &model{room: 2, tries: 1, time: 3}
	if seq, e := m.add(7, some(7), 0); seq != 1 || e != api.OK {
		t.Error(seq, e)
	}
	if a, b := m.tick(2); len(a)+len(b) != 0 {
		t.Error(a, b)
	}
	want := api.Asked{Seq: 1, Index: 7, Head: some(7), Sent: 2, Due: 6}
	if a, b := m.tick(3); len(a) != 1 || a[0] != want || len(b) != 0 {
		t.Error(a, b)
	}
	if a, b := m.tick(6); len(a) != 0 || len(b) != 1 || b[0] != want {
		t.Error(a, b)
	}
	m.add(0, some(0), 0)
	m.add(0, some(0), 0)
	if seq, e := m.add(0, some(0), 0); seq != 0 || e != api.ErrFull {
		t.Error(seq, e)
	}
	if _, ok := m.answer(1); ok {
		t.Error("given up, then answered")
	}
	if x, ok := m.answer(3); !ok || x.Seq != 3 {
		t.Error(x, ok)
	}
	if l := m.clear(); len(l) != 1 || l[0].Seq != 2 || len(m.list()) != 0 {
		t.Error(l, m.list())
	}
}
