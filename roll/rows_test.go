package roll

import (
	"testing"

	"milepost/api"
)

// noise is a row of numbers without a pattern, always the same one.
type noise uint64

func (n *noise) next() uint64 {
	*n ^= *n << 13
	*n ^= *n >> 7
	*n ^= *n << 17
	return uint64(*n)
}

func (n *noise) below(many int) int {
	return int(n.next() >> 11 % uint64(many))
}

// near is mostly one of the few numbers about another one, at times one of any size.
func (n *noise) near(at int) int {
	if n.below(40) == 0 {
		all := numbers()
		return all[n.below(len(all))]
	}
	return at + n.below(5) - 2
}

// someCall is one near what the roll has.
func someCall(n *noise, r *Roll, switches int, now int) said {
	s := 1 + n.below(switches)
	if n.below(20) == 0 {
		s = n.near(0)
	}
	inc := r.Inc(s)
	if n.below(6) == 0 {
		inc = n.near(inc)
	}
	epoch := n.near(3)
	switch n.below(10) {
	case 0:
		if n.below(3) > 0 {
			inc = min(inc+n.below(2), 9)
		}
		return said{'h', [4]int{s, inc, n.near(now)}}
	case 1, 2, 3:
		return said{'a', [4]int{s, inc, epoch, n.near(r.Have(s, epoch))}}
	case 4:
		return said{'s', [4]int{s, inc, n.near(r.Use(s))}}
	case 5:
		return said{'k', [4]int{epoch, n.near(3)}}
	}
	return said{'l', [4]int{s, epoch, n.near(now)}}
}

func run(r *Roll, x said) bool {
	switch x.kind {
	case 'h':
		return r.Hear(x.n[0], x.n[1], x.n[2])
	case 'a':
		return r.Ack(x.n[0], x.n[1], x.n[2], x.n[3])
	case 's':
		return r.Seen(x.n[0], x.n[1], x.n[2])
	case 'l':
		r.Led(x.n[0], x.n[1], x.n[2])
	case 'k':
		r.Keep(x.n[0], x.n[1])
	}
	return false
}

// same holds all that is told of a switch against the reckoning, at some times.
func same(t *testing.T, n *noise, r *Roll, m *model, s int, now int, count map[bool]int) {
	t.Helper()
	if r.Inc(s) != m.inc(s) || r.Use(s) != m.use(s) {
		t.Fatalf("of %d: %d, %d, want %d, %d", s, r.Inc(s), r.Use(s), m.inc(s), m.use(s))
	}
	for range 4 {
		epoch, at, ticks := n.near(3), n.near(now), n.near(3)
		if got, want := r.Have(s, epoch), m.have(s, epoch); got != want {
			t.Fatalf("Have(%d, %d): %d, want %d", s, epoch, got, want)
		}
		if got, want := r.In(s, at, ticks), m.in(s, at, ticks); got != want {
			t.Fatalf("In(%d, %d, %d): %v", s, at, ticks, got)
		}
		if got, want := r.Safe(s, epoch, at, ticks), m.safe(s, epoch, at, ticks); got != want {
			t.Fatalf("Safe(%d, %d, %d, %d): %v", s, epoch, at, ticks, got)
		} else {
			count[want]++
		}
	}
}

// TestRows holds long rows of calls against the reckoning.
func TestRows(t *testing.T) {
	n := noise(20261119)
	answered, count := map[byte]int{}, map[bool]int{}
	for row := range 300 {
		switches := 1 + row%api.MaxSwitches
		r, m := fresh(t, switches), &model{switches: switches}
		now := 0
		if row%7 == 0 {
			now = api.MaxTicks - 20
		}
		for range 80 {
			now += n.below(2)
			x := someCall(&n, r, switches, now)
			if got, want := run(r, x), m.do(x); got != want {
				t.Fatalf("%c%v: %v", x.kind, x.n, got)
			} else if got {
				answered[x.kind]++
			}
			for s := 0; s <= switches+1; s++ {
				same(t, &n, r, m, s, now, count)
			}
		}
	}
	if answered['h'] < 700 || answered['a'] < 2000 || answered['s'] < 500 || count[true] < 9000 || count[false] < 9000 {
		t.Error("too little happened:", answered, count)
	}
}
