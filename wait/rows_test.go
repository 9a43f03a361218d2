package wait

import (
	"slices"
	"testing"

	"milepost/api"
)

// pair is an object and the plain reckoning of the same calls; seen counts what happened in them, ended how often each one's waiting was ended.
type pair struct {
	t     *testing.T
	w     *Wait
	m     *model
	seen  map[string]int
	ended map[int]int
}

func newPair(t *testing.T, room int, tries int, time int, seen map[string]int) *pair {
	t.Helper()
	return &pair{t: t, w: fresh(t, room, tries, time), m: &model{room: room, tries: tries, time: time}, seen: seen, ended: map[int]int{}}
}

func (p *pair) end(what string, l ...api.Asked) {
	for _, x := range l {
		p.seen[what]++
		if p.ended[x.Seq]++; p.ended[x.Seq] > 1 {
			p.t.Fatal("a second time", what, x)
		}
	}
}

func (p *pair) add(index int, h api.Header, now int) {
	seq, e := p.w.Add(index, h, now)
	seq2, e2 := p.m.add(index, h, now)
	if seq != seq2 || e != e2 {
		p.t.Fatalf("Add(%d, %v, %d): %d %d, want %d %d", index, h, now, seq, e, seq2, e2)
	}
	if e == api.OK {
		p.seen["added"]++
	} else {
		p.seen["refused"]++
	}
}

func (p *pair) answer(seq int) {
	x, ok := p.w.Answer(seq)
	x2, ok2 := p.m.answer(seq)
	if x != x2 || ok != ok2 {
		p.t.Fatalf("Answer(%d): %v %v, want %v %v", seq, x, ok, x2, ok2)
	}
	if ok {
		p.end("answered", x)
	} else {
		p.seen["nobody"]++
	}
}

func (p *pair) tick(now int) {
	a, b := p.w.Tick(now)
	a2, b2 := p.m.tick(now)
	if !slices.Equal(a, a2) || !slices.Equal(b, b2) {
		p.t.Fatalf("Tick(%d): %v %v, want %v %v", now, a, b, a2, b2)
	}
	p.end("given up", b...)
	p.seen["again"] += len(a)
	if len(a) > 0 && len(b) > 0 {
		p.seen["both at once"]++
	}
}

func (p *pair) clear() {
	a, b := p.w.Clear(), p.m.clear()
	if !slices.Equal(a, b) {
		p.t.Fatalf("Clear: %v, want %v", a, b)
	}
	p.end("cleared", a...)
}

func (p *pair) same() {
	if a, b := p.w.List(), p.m.list(); !slices.Equal(a, b) {
		p.t.Fatalf("List: %v, want %v", a, b)
	}
}

// call is one of the calls, about a time, mostly of those that wait.
func (p *pair) call(n *noise, now int) {
	at := now + n.below(7) - 3
	if n.below(80) == 0 {
		at = n.number()
	}
	switch k := n.below(40); {
	case k < 18:
		p.add(n.number(), some(n.below(1<<16)), at)
	case k < 26:
		seq := n.below(len(p.m.all)+2) + n.below(2)
		if l := p.m.list(); len(l) > 0 && n.below(2) == 0 {
			seq = l[n.below(len(l))].Seq
		}
		if n.below(20) == 0 {
			seq = n.number()
		}
		p.answer(seq)
	case k < 39:
		p.tick(at)
	default:
		if n.below(4) == 0 {
			p.clear()
		}
	}
}

// TestRows: long rows of calls, one behind the other, on objects of many kinds.
func TestRows(t *testing.T) {
	n := noise(19)
	seen := map[string]int{}
	for range 400 {
		p := newPair(t, n.below(9)+1, n.below(9), n.below(6)+1, seen)
		for now := range 300 {
			p.call(&n, now)
			p.same()
		}
		p.clear()
		p.same()
		if len(p.ended) != len(p.m.all) {
			t.Fatal("of", len(p.m.all), "ended", len(p.ended))
		}
	}
	for _, what := range []string{"added", "refused", "answered", "nobody", "again", "given up", "both at once", "cleared"} {
		if seen[what] < 300 {
			t.Error("too seldom:", what, seen[what])
		}
	}
}

// TestGreatRows: the most room, tries and time, filled to it.
func TestGreatRows(t *testing.T) {
	n := noise(20)
	seen := map[string]int{}
	p := newPair(t, api.MaxWait, 8, 1000, seen)
	for now := 0; now < 60000; now += n.below(60) {
		if n.below(3) > 0 {
			p.add(now, some(now), now)
		}
		if n.below(12) == 0 {
			p.answer(n.below(len(p.m.all) + 1))
		}
		p.tick(now)
		p.same()
	}
	for _, what := range []string{"added", "refused", "answered", "again", "given up"} {
		if seen[what] < 20 {
			t.Error("too seldom:", what, seen[what])
		}
	}
}

// TestAnyNumbers: numbers of any size at each call, at each time.
func TestAnyNumbers(t *testing.T) {
	seen := map[string]int{}
	for _, time := range []int{1, 2, 1000} {
		for _, first := range far() {
			for _, then := range far() {
				p := newPair(t, 3, 1, time, seen)
				p.add(first, some(1), first)
				p.add(then, some(2), then)
				for _, now := range []int{first, then, first, then} {
					p.tick(now)
					p.same()
				}
				p.add(1, some(3), 0)
				p.answer(first)
				p.answer(then)
				p.same()
				p.clear()
				p.same()
			}
		}
	}
}

// TestShortRows: all rows of five calls out of few, at all small objects.
func TestShortRows(t *testing.T) {
	calls := []func(p *pair){
		func(p *pair) { p.add(4, some(4), 0) },
		func(p *pair) { p.add(5, some(5), 1) },
		func(p *pair) { p.answer(1) },
		func(p *pair) { p.answer(2) },
		func(p *pair) { p.tick(1) },
		func(p *pair) { p.tick(2) },
		func(p *pair) { p.tick(3) },
		func(p *pair) { p.clear() },
	}
	seen := map[string]int{}
	rows := 1
	for range 5 {
		rows *= len(calls)
	}
	for kind := range 8 {
		for row := range rows {
			p := newPair(t, kind%2+1, kind/2%2, kind/4+1, seen)
			for left := row + rows; left > 1; left /= len(calls) {
				calls[left%len(calls)](p)
				p.same()
			}
		}
	}
}
