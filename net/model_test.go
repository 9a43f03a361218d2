package net

import (
	"math"
	"slices"
	"testing"

	"milepost/api"
)

// What the tests reckon with: one row of the letters of all links, in the order in which they came to be, gone through from its beginning each time; no letter has a number.

type model struct {
	nodes int
	room  int
	row   []api.Letter
}

// places are those in the row at which a link's letters stand; false: there is no such link.
func (m *model) places(from int, to int) ([]int, bool) {
	if min(from, to) < 0 || max(from, to) > m.nodes {
		return nil, false
	}
	var out []int
	for i, x := range m.row {
		if x.From == from && x.To == to {
			out = append(out, i)
		}
	}
	return out, true
}

func (m *model) send(from int, to int, data string) api.Errno {
	l, ok := m.places(from, to)
	if !ok {
		return api.ErrArg
	}
	if len(l) >= m.room {
		return api.ErrFull
	}
	m.row = append(m.row, api.Letter{From: from, To: to, Data: data})
	return api.OK
}

func (m *model) count(from int, to int) int {
	l, _ := m.places(from, to)
	return len(l)
}

// find is the place in the row of a link's i-th letter.
func (m *model) find(from int, to int, i int) (int, api.Errno) {
	l, ok := m.places(from, to)
	if !ok {
		return 0, api.ErrArg
	}
	for k, place := range l {
		if k == i {
			return place, api.OK
		}
	}
	return 0, api.ErrNone
}

func (m *model) peek(from int, to int, i int) (string, api.Errno) {
	place, e := m.find(from, to, i)
	if e != api.OK {
		return "", e
	}
	return m.row[place].Data, api.OK
}

func (m *model) take(from int, to int, i int) (string, api.Errno) {
	place, e := m.find(from, to, i)
	if e != api.OK {
		return "", e
	}
	data := m.row[place].Data
	m.row = append(slices.Clone(m.row[:place]), m.row[place+1:]...)
	return data, api.OK
}

func (m *model) twice(from int, to int, i int) api.Errno {
	data, e := m.peek(from, to, i)
	if e != api.OK {
		return e
	}
	return m.send(from, to, data)
}

func (m *model) oldest() (int, int, bool) {
	if len(m.row) == 0 {
		return 0, 0, false
	}
	return m.row[0].From, m.row[0].To, true
}

// noise is a row of numbers without a pattern, always the same one.
type noise uint64

func (n *noise) next() uint64 {
	*n ^= *n << 13
	*n ^= *n >> 7
	*n ^= *n << 17
	return uint64(*n)
}

func (n *noise) below(many int) int {
	return int(n.next() >> 11 % uint64(many))
}

// address is mostly one that is there.
func (n *noise) address(nodes int) int {
	if n.below(25) == 0 {
		return []int{math.MinInt, -1, nodes + 1, nodes + 2, api.MaxSwitches + 1, math.MaxInt}[n.below(6)]
	}
	return n.below(nodes + 1)
}

// place is mostly that of a letter, if there are any.
func (n *noise) place(letters int) int {
	if n.below(12) == 0 {
		return []int{math.MinInt, -1, letters, letters + 1, math.MaxInt}[n.below(5)]
	}
	return n.below(letters + 1)
}

// data is of few bytes, none at times, so that letters often say the same.
func (n *noise) data() string {
	b := make([]byte, n.below(4))
	for i := range b {
		b[i] = "\x00a\x80\xff"[n.below(4)]
	}
	return string(b)
}

// TestReckoning holds the reckoning itself against the chapter's example.
func TestReckoning(t *testing.T) {
	m := &model{nodes: 1, room: 1}
	if from, to, ok := m.oldest(); from != 0 || to != 0 || ok {
		t.Error(from, to, ok)
	}
	if m.send(0, 1, "a") != api.OK || m.send(0, 1, "b") != api.ErrFull || m.send(1, 0, "b") != api.OK {
		t.Error(m.row)
	}
	if m.send(0, 2, "") != api.ErrArg || m.twice(0, 1, 0) != api.ErrFull || m.twice(0, 0, 0) != api.ErrNone {
		t.Error(m.row)
	}
	if from, to, ok := m.oldest(); from != 0 || to != 1 || !ok {
		t.Error(from, to, ok)
	}
	if s, e := m.take(0, 1, 0); s != "a" || e != api.OK {
		t.Error(s, e)
	}
	if from, to, ok := m.oldest(); from != 1 || to != 0 || !ok {
		t.Error(from, to, ok)
	}
}
