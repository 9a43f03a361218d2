package net

import (
	"math"
	"testing"

	"milepost/api"
)

// pair is a net and the plain reckoning of the same calls; seen counts what happened in them.
type pair struct {
	t    *testing.T
	x    *Net
	m    *model
	seen map[string]int
}

// saw counts a call by its name and by what became of it.
func (p *pair) saw(call string, e api.Errno) {
	p.seen[call+[]string{0: " done", 1: " nowhere", 13: " without room", 14: " of none"}[e]]++
}

func (p *pair) send(from int, to int, data string) {
	e, want := p.x.Send(from, to, data), p.m.send(from, to, data)
	if e != want {
		p.t.Fatalf("Send(%d, %d, %q): %d, want %d", from, to, data, e, want)
	}
	p.saw("Send", e)
}

func (p *pair) peek(from int, to int, i int) {
	s, e := p.x.Peek(from, to, i)
	s2, e2 := p.m.peek(from, to, i)
	if s != s2 || e != e2 {
		p.t.Fatalf("Peek(%d, %d, %d): %q %d, want %q %d", from, to, i, s, e, s2, e2)
	}
	p.saw("Peek", e)
}

func (p *pair) take(from int, to int, i int) {
	s, e := p.x.Take(from, to, i)
	s2, e2 := p.m.take(from, to, i)
	if s != s2 || e != e2 {
		p.t.Fatalf("Take(%d, %d, %d): %q %d, want %q %d", from, to, i, s, e, s2, e2)
	}
	p.saw("Take", e)
}

func (p *pair) twice(from int, to int, i int) {
	e, want := p.x.Twice(from, to, i), p.m.twice(from, to, i)
	if e != want {
		p.t.Fatalf("Twice(%d, %d, %d): %d, want %d", from, to, i, e, want)
	}
	p.saw("Twice", e)
}

func (p *pair) oldest() (int, int, bool) {
	from, to, ok := p.x.Oldest()
	from2, to2, ok2 := p.m.oldest()
	if from != from2 || to != to2 || ok != ok2 {
		p.t.Fatal("Oldest:", from, to, ok, "want", from2, to2, ok2)
	}
	return from, to, ok
}

// same holds all that can be asked against each other.
func (p *pair) same() {
	p.oldest()
	if got, want := p.x.Total(), len(p.m.row); got != want {
		p.t.Fatal("Total:", got, "want", want)
	}
	for from := -1; from <= api.MaxSwitches+1; from++ {
		for to := -1; to <= api.MaxSwitches+1; to++ {
			want := p.m.count(from, to)
			if got := p.x.Count(from, to); got != want {
				p.t.Fatal("Count:", from, to, ":", got, "want", want)
			}
			for i := -1; i <= want; i++ {
				p.peek(from, to, i)
			}
		}
	}
}

func (p *pair) call(n *noise) {
	from, to := n.address(p.m.nodes), n.address(p.m.nodes)
	i := n.place(p.m.count(from, to))
	switch k := n.below(20); {
	case k < 9:
		p.send(from, to, n.data())
	case k < 12:
		p.twice(from, to, i)
	case k < 17:
		p.take(from, to, i)
	case k < 19:
		p.peek(from, to, i)
	default:
		// As a calm does it.
		if from, to, ok := p.oldest(); ok {
			p.take(from, to, 0)
		}
	}
}

// empty takes all letters, the oldest first: they come as they came to be.
func (p *pair) empty() {
	for {
		from, to, ok := p.oldest()
		if !ok {
			break
		}
		p.take(from, to, 0)
	}
	p.same()
	if p.x.Total() != 0 {
		p.t.Fatal("letters without an oldest one:", p.x.Total())
	}
}

// TestRows: long rows of calls, one behind the other, on nets of many kinds.
func TestRows(t *testing.T) {
	n := noise(17)
	seen := map[string]int{}
	for range 140 {
		nodes, room := n.below(api.MaxSwitches+1), n.below(6)+1
		p := &pair{t: t, x: fresh(t, nodes, room), m: &model{nodes: nodes, room: room}, seen: seen}
		for range 250 {
			p.call(&n)
			p.same()
		}
		p.empty()
	}
	for _, what := range []string{
		"Send done", "Send nowhere", "Send without room",
		"Peek done", "Peek nowhere", "Peek of none",
		"Take done", "Take nowhere", "Take of none",
		"Twice done", "Twice nowhere", "Twice without room", "Twice of none",
	} {
		if seen[what] < 100 {
			t.Error("too seldom:", what, seen[what])
		}
	}
}

// TestGreatRows: nets of the most room, filled to it.
func TestGreatRows(t *testing.T) {
	n := noise(18)
	p := &pair{t: t, x: fresh(t, 1, api.MaxQueue), m: &model{nodes: 1, room: api.MaxQueue}, seen: map[string]int{}}
	for range 3 {
		for range 6 * api.MaxQueue {
			p.send(n.below(2), n.below(2), n.data())
		}
		p.same()
		if p.x.Total() != 4*api.MaxQueue {
			t.Fatal(p.x.Total())
		}
		for range 3 * api.MaxQueue {
			from, to := n.below(2), n.below(2)
			p.take(from, to, n.place(p.m.count(from, to)))
		}
		p.same()
	}
	p.empty()
	if p.seen["Send without room"] < 100 {
		t.Error(p.seen)
	}
}

// TestWrongNumbers: numbers of any size end in an error, on a net with letters and on one without.
func TestWrongNumbers(t *testing.T) {
	numbers := []int{math.MinInt, math.MinInt + 1, math.MinInt32, -8, -7, -1, 0, 1, 2, 3, 6, 7, 8, 512, math.MaxInt32, math.MaxInt - 1, math.MaxInt}
	p := &pair{t: t, x: fresh(t, 2, 2), m: &model{nodes: 2, room: 2}, seen: map[string]int{}}
	for range 3 {
		for _, from := range numbers {
			for _, to := range numbers {
				for _, i := range numbers {
					p.peek(from, to, i)
					p.twice(from, to, i)
					p.take(from, to, i)
				}
				p.send(from, to, "x")
				if got, want := p.x.Count(from, to), p.m.count(from, to); got != want {
					t.Fatal("Count:", from, to, got, want)
				}
			}
		}
		p.same()
	}
}
