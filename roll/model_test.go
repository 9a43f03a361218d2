package roll

import (
	"math/big"
	"testing"

	"milepost/api"
)

// What the tests reckon with: all that was said to a roll stands in a row; each answer is reckoned anew from that row, by the chapter's words; times are held against each other as numbers of any length.

// said is one call: 'h' Hear (s, inc, now), 'a' Ack (s, inc, epoch, count), 's' Seen (s, inc, use), 'l' Led (s, use, now), 'k' Keep (a, b).
type said struct {
	kind byte
	n    [4]int
}

type model struct {
	switches int
	row      []said
}

func (m *model) there(s int) bool {
	return s >= 1 && s <= m.switches
}

// inc is the greatest life that was heard.
func (m *model) inc(s int) int {
	life := 0
	for _, x := range m.row {
		if x.kind == 'h' && x.n[0] == s && m.there(s) {
			life = max(life, x.n[1])
		}
	}
	return life
}

// since is what was said of a switch from the first time on that its life was heard, or all.
func (m *model) since(s int) []said {
	life := m.inc(s)
	for i, x := range m.row {
		if life > 0 && x.kind == 'h' && x.n[0] == s && x.n[1] == life {
			return m.row[i:]
		}
	}
	return m.row
}

// do says a call, and tells what it answers.
func (m *model) do(x said) bool {
	s, inc := x.n[0], x.n[1]
	life := m.inc(s)
	ok := false
	switch x.kind {
	case 'h':
		ok = m.there(s) && inc >= 1 && inc >= life
	case 'a', 's':
		ok = m.there(s) && inc == life && inc != 0
	}
	if ok || x.kind == 'l' || x.kind == 'k' {
		m.row = append(m.row, x)
	}
	return ok
}

func asTime(now int) *big.Int {
	if now < 0 {
		now = 0
	}
	if now > api.MaxTicks {
		now = api.MaxTicks
	}
	return big.NewInt(int64(now))
}

// gap holds now less then against a number: below 0, 0, above.
func gap(now int, then int, limit int) int {
	return new(big.Int).Sub(asTime(now), asTime(then)).Cmp(big.NewInt(int64(limit)))
}

func (m *model) in(s int, now int, lost int) bool {
	ok := false
	for _, x := range m.since(s) {
		if x.kind == 'h' && x.n[0] == s && m.there(s) {
			ok = gap(now, x.n[2], lost) < 0
		}
	}
	return ok
}

func (m *model) have(s int, epoch int) int {
	many := 0
	for _, x := range m.since(s) {
		switch {
		case x.kind == 'a' && x.n[0] == s && x.n[2] == epoch:
			many = max(many, x.n[3])
		case x.kind == 'k' && x.n[0] != epoch && x.n[1] != epoch:
			many = 0
		}
	}
	return many
}

func (m *model) use(s int) int {
	use := 0
	for _, x := range m.since(s) {
		if x.kind == 's' && x.n[0] == s {
			use = max(use, x.n[2])
		}
	}
	return use
}

func (m *model) safe(s int, epoch int, now int, lease int) bool {
	if !m.there(s) {
		return false
	}
	if m.use(s) >= epoch {
		return true
	}
	for _, x := range m.since(s) {
		if x.kind == 'l' && x.n[0] == s && x.n[1] < epoch && gap(now, x.n[2], lease) < 0 {
			return false
		}
	}
	return true
}

// TestReckoning holds the reckoning itself against the chapter's example.
func TestReckoning(t *testing.T) {
	m := &model{switches: 1}
	if !m.do(said{'h', [4]int{1, 1, 5}}) || m.do(said{'h', [4]int{2, 1, 5}}) || m.do(said{'l', [4]int{1, 3, 6}}) {
		t.Error(m)
	}
	if m.safe(1, 4, 8, 3) || !m.safe(1, 4, 9, 3) || !m.safe(1, 3, 8, 3) || !m.in(1, 7, 3) || m.in(1, 8, 3) {
		t.Error(m)
	}
	if !m.do(said{'s', [4]int{1, 1, 4}}) || !m.safe(1, 4, 8, 3) || m.use(1) != 4 {
		t.Error(m)
	}
	if !m.do(said{'a', [4]int{1, 1, 4, 7}}) || m.have(1, 4) != 7 || m.do(said{'k', [4]int{4, 9}}) || m.have(1, 4) != 7 || m.do(said{'k', [4]int{3, 9}}) || m.have(1, 4) != 0 {
		t.Error(m)
	}
	if !m.do(said{'h', [4]int{1, 2, 8}}) || m.use(1) != 0 || m.inc(1) != 2 || m.do(said{'s', [4]int{1, 1, 4}}) {
		t.Error(m)
	}
}
