package tcam

import (
	"slices"
	"testing"

	"milepost/api"
)

// pair is a table and the plain reckoning of the same calls; seen counts what happened in them.
type pair struct {
	t    *testing.T
	x    *Table
	m    *model
	now  int
	seen map[string]int
}

func (p *pair) learn(n *noise) {
	p.now += n.below(3)
	now, epoch, c, action := n.time(p.now), n.epoch(), n.cube(), n.below(100)
	s, gone, e := p.x.Learn(now, epoch, c, action)
	s2, gone2, e2 := p.m.learn(now, epoch, c, action)
	if s != s2 || gone != gone2 || e != e2 {
		p.t.Fatal("Learn:", now, epoch, c, action, ":", s, gone, e, "want", s2, gone2, e2)
	}
	switch {
	case e != api.OK:
		p.seen["no cache"]++
	case gone:
		p.seen["evicted"]++
	default:
		p.seen["learnt"]++
	}
}

func (p *pair) lay(n *noise) {
	s := n.slot()
	if n.below(20) == 0 {
		s.Bank = []int{-1, 0, 1, 4}[n.below(4)]
	}
	e, e2 := p.x.Lay(s), p.m.lay(s)
	if e != e2 {
		p.t.Fatal("Lay:", s, e, "want", e2)
	}
	p.seen[[]string{0: "laid", 1: "no bank", 9: "twice", 13: "full"}[e]]++
}

func (p *pair) look(n *noise) {
	now, epoch, h := n.time(p.now), n.epoch(), n.header()
	s, ok := p.x.Look(now, epoch, h)
	s2, ok2 := p.m.look(now, epoch, h)
	if s != s2 || ok != ok2 {
		p.t.Fatal("Look:", now, epoch, h, ":", s, ok, "want", s2, ok2)
	}
	p.seen[[]string{"nothing", "in the cache", "a rule", "a partition"}[s.Bank]]++
}

func (p *pair) peek(n *noise) {
	epoch, h := n.epoch(), n.header()
	s, ok := p.x.Peek(epoch, h)
	s2, ok2 := p.m.peek(epoch, h)
	if s != s2 || ok != ok2 {
		p.t.Fatal("Peek:", epoch, h, ":", s, ok, "want", s2, ok2)
	}
}

func (p *pair) keep(n *noise) {
	a, b := n.epoch(), n.epoch()
	many, want := p.x.Keep(a, b), p.m.keep(a, b)
	if many != want {
		p.t.Fatal("Keep:", a, b, ":", many, "want", want)
	}
	p.seen["left"] += many
}

func (p *pair) tick(n *noise) {
	now := n.time(p.now)
	l, want := p.x.Tick(now), p.m.tick(now)
	if !slices.Equal(l, want) {
		p.t.Fatal("Tick:", now, ":", l, "want", want)
	}
	p.seen["aged"] += len(l)
}

// same holds all that can be asked against each other.
func (p *pair) same() {
	for bank := 0; bank <= 4; bank++ {
		want := p.m.slots(bank)
		if got := p.x.Slots(bank); !slices.Equal(got, want) || p.x.Count(bank) != len(want) {
			p.t.Fatal("Slots:", bank, got, p.x.Count(bank), "want", want)
		}
	}
	for epoch := 0; epoch <= 4; epoch++ {
		if got, want := p.x.Rules(epoch), p.m.rules(epoch); !slices.Equal(got, want) {
			p.t.Fatal("Rules:", epoch, got, "want", want)
		}
	}
}

func (p *pair) call(n *noise) {
	switch k := n.below(40); {
	case k < 12:
		p.learn(n)
	case k < 22:
		p.lay(n)
	case k < 32:
		p.look(n)
	case k < 36:
		p.peek(n)
	case k < 39:
		p.tick(n)
	case n.below(3) == 0:
		p.keep(n)
	}
}

// TestRows: long rows of calls, one behind the other, on tables of many kinds.
func TestRows(t *testing.T) {
	n := noise(11)
	seen := map[string]int{}
	for range 150 {
		cache, auth, part := n.below(9), n.below(20), n.below(20)
		idle, hard := n.below(3)*n.below(8), n.below(3)*n.below(12)
		p := &pair{t: t, x: table(t, cache, auth, part, idle, hard), m: newModel(cache, auth, part, idle, hard), seen: seen}
		for range 300 {
			p.call(&n)
			p.same()
		}
	}
	for _, what := range []string{"no cache", "evicted", "learnt", "laid", "no bank", "twice", "full", "nothing", "in the cache", "a rule", "a partition", "left", "aged"} {
		if seen[what] < 300 {
			t.Error("too seldom:", what, seen[what])
		}
	}
}

// TestGreatRow: banks of the greatest room, filled more than once.
func TestGreatRow(t *testing.T) {
	n := noise(12)
	x := table(t, api.MaxBank, api.MaxBank, api.MaxBank, 0, 0)
	var came []api.Slot
	for i := range 2*api.MaxBank + 50 {
		s, gone, e := x.Learn(i/7, 1, numbered(i), i)
		if e != api.OK || gone != (i >= api.MaxBank) || gone && s != came[i-api.MaxBank] {
			t.Fatal(i, s, gone, e)
		}
		came = append(came, api.Slot{Bank: api.Cache, Epoch: 1, Cube: right(numbered(i)), Action: i, Born: i / 7, Used: i / 7})
	}
	wantBank(t, x, api.Cache, came[len(came)-api.MaxBank:]...)
	// Those that are used stay longer.
	place := len(came) - api.MaxBank
	h := numbered(place).Value
	if s, ok := x.Look(api.MaxTicks, 1, h); !ok || s.Action != place {
		t.Fatal(s, ok)
	}
	if s, gone, e := x.Learn(1, 2, numbered(n.below(99)), 1); e != api.OK || !gone || s != came[place+1] {
		t.Fatal(s, gone, e)
	}
}
