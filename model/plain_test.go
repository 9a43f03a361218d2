package model

import (
	"slices"
	"testing"

	"milepost/api"
	"milepost/sense"
)

// What the tests reckon with: a row of all that happened, from which each answer is worked out anew, from the first event on.

type what int

const (
	accepting what = iota
	committing
	injecting
	ending
)

type event struct {
	what    what
	index   int
	head    api.Header
	entries []api.Entry
}

type plain struct {
	row []event
}

// often is how often something happened in a row.
func often(row []event, w what) int {
	n := 0
	for _, x := range row {
		if x.what == w {
			n++
		}
	}
	return n
}

// has is whether it happened to an injection.
func (p *plain) has(w what, index int) bool {
	return slices.ContainsFunc(p.row, func(x event) bool { return x.what == w && x.index == index })
}

func (p *plain) accepted() int  { return often(p.row, accepting) }
func (p *plain) committed() int { return often(p.row, committing) }

func (p *plain) happens(may bool, x event) bool {
	if may {
		p.row = append(p.row, x)
	}
	return may
}

func (p *plain) accept(l []api.Entry) bool {
	return p.happens(p.accepted() == p.committed(), event{what: accepting, entries: slices.Clone(l)})
}

func (p *plain) commit(index int) bool {
	return p.happens(index == p.accepted() && p.accepted() > p.committed(), event{what: committing})
}

func (p *plain) inject(index int, h api.Header) bool {
	return p.happens(!p.has(injecting, index), event{what: injecting, index: index, head: h})
}

func (p *plain) isOpen(index int) bool {
	return p.has(injecting, index) && !p.has(ending, index)
}

func (p *plain) drop(index int) bool {
	return p.happens(p.isOpen(index), event{what: ending, index: index})
}

// policies is each policy's entries, by its number.
func (p *plain) policies() map[int][]api.Entry {
	out := map[int][]api.Entry{}
	for _, x := range p.row {
		if x.what == accepting {
			out[len(out)+1] = x.entries
		}
	}
	return out
}

// came is where in the row an injection came.
func (p *plain) came(index int) int {
	return slices.IndexFunc(p.row, func(x event) bool { return x.what == injecting && x.index == index })
}

func (p *plain) may(index int) []int {
	if !p.isOpen(index) {
		return nil
	}
	from := often(p.row[:p.came(index)], committing)
	var out []int
	for n := range p.accepted() {
		if n+1 >= from {
			out = append(out, n+1)
		}
	}
	return out
}

func (p *plain) emit(index int, action int) bool {
	all := p.policies()
	for _, n := range p.may(index) {
		if a, ok := sense.Says(all[n], p.row[p.came(index)].head); ok && a == action {
			return p.drop(index)
		}
	}
	return false
}

func (p *plain) open() []int {
	var out []int
	for _, x := range p.row {
		if x.what == injecting && p.isOpen(x.index) {
			out = append(out, x.index)
		}
	}
	slices.Sort(out)
	return out
}

// TestReckoning holds the reckoning itself against the chapter's example.
func TestReckoning(t *testing.T) {
	p, h := &plain{}, port(80)
	is(t, "ahead of all", p.accept(to(1)) && p.commit(1) && p.inject(7, h) && p.accept(to(2)), true)
	if l := p.may(7); !slices.Equal(l, []int{1, 2}) {
		t.Error(l)
	}
	is(t, "not committed", p.accept(to(3)), false)
	is(t, "emit", p.emit(7, 2), true)
	is(t, "over", p.emit(7, 1) || p.drop(7) || p.inject(7, h), false)
	is(t, "the others", p.inject(8, h) && p.commit(2) && p.inject(9, h), true)
	is(t, "committed", p.commit(2) || p.commit(1) || p.commit(3), false)
	if a, b := p.may(8), p.may(9); !slices.Equal(a, []int{1, 2}) || !slices.Equal(b, []int{2}) {
		t.Error(a, b)
	}
	if l := p.open(); !slices.Equal(l, []int{8, 9}) || p.accepted() != 2 || p.committed() != 2 {
		t.Error(l)
	}
}
