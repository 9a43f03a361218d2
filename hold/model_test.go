package hold

import (
	"maps"
	"math/big"
	"testing"

	"milepost/api"
)

// What the tests reckon with: the chapter's words, one after the other; epochs' items stand in a map, without a bound on how many epochs there are, and times are held against each other as numbers of any length.

type model struct {
	inc   int
	floor int
	top   int
	use   int
	said  int
	items map[int][2]int
}

func plain(inc int) *model {
	return &model{inc: inc, items: map[int][2]int{}}
}

func (m *model) clone() *model {
	x := *m
	x.items = maps.Clone(m.items)
	return &x
}

func (m *model) comeToFloor(f int) {
	if f <= m.floor {
		return
	}
	m.floor = f
	for epoch := range m.items {
		if epoch < f {
			delete(m.items, epoch)
		}
	}
	if m.use < f {
		m.use, m.said = 0, 0
	}
	if m.top < f {
		m.top = f
	}
}

func (m *model) comeToEpoch(e int) {
	if e <= m.top {
		return
	}
	m.top = e
	for epoch := range m.items {
		if epoch != e && epoch != m.floor {
			delete(m.items, epoch)
		}
	}
	if m.use != e && m.use != m.floor {
		m.use, m.said = 0, 0
	}
}

func (m *model) full(epoch int) bool {
	x := m.items[epoch]
	return (epoch == m.floor || epoch == m.top) && x[0] >= 1 && x[0] == x[1]
}

func (m *model) item(floor int, epoch int, at int, of int) int {
	if floor < 0 || epoch < 1 || at < 0 || !(of > at) {
		return 0
	}
	m.comeToFloor(floor)
	m.comeToEpoch(epoch)
	if epoch != m.floor && epoch != m.top {
		return 0
	}
	x := m.items[epoch]
	switch {
	case x[0] > 0 && x[1] != of:
		return 0
	case x[0] == at:
		m.items[epoch] = [2]int{x[0] + 1, of}
		return 1
	case x[0] > at:
		return 2
	}
	return 0
}

func (m *model) lead(sent int, use int, floor int) bool {
	for _, x := range []int{sent, use, floor} {
		if x < 0 {
			return false
		}
	}
	m.comeToFloor(floor)
	if m.full(use) && use >= m.use {
		if m.use != use || sent > m.said {
			m.said = sent
		}
		m.use = use
	}
	return use > 0 && m.use == use
}

func (m *model) live(now int, lease int) bool {
	if m.use == 0 {
		return false
	}
	if now < 0 {
		now = 0
	}
	if now > api.MaxTicks {
		now = api.MaxTicks
	}
	gap := new(big.Int).Sub(big.NewInt(int64(now)), big.NewInt(int64(m.said)))
	return gap.Cmp(big.NewInt(int64(lease))) < 0
}

func (m *model) tell() told {
	low, high := m.items[m.floor], m.items[m.top]
	return told{inc: m.inc, floor: m.floor, top: m.top, use: m.use, said: m.said, lowHas: low[0], lowOf: low[1], highHas: high[0], highOf: high[1]}
}

// noise is a row of numbers without a pattern, always the same one.
type noise uint64

func (n *noise) next() uint64 {
	*n ^= *n << 13
	*n ^= *n >> 7
	*n ^= *n << 17
	return uint64(*n)
}

func (n *noise) below(many int) int {
	return int(n.next() >> 11 % uint64(many))
}

// near is mostly one of the few numbers about another one, at times one of any size.
func (n *noise) near(at int) int {
	if n.below(60) == 0 {
		all := numbers()
		return all[n.below(len(all))]
	}
	return at + n.below(5) - 2
}

// TestReckoning holds the reckoning itself against the chapter's example.
func TestReckoning(t *testing.T) {
	m := plain(1)
	if m.item(0, 1, 0, 2) != 1 || m.item(0, 1, 0, 2) != 2 || m.lead(5, 1, 0) || m.item(0, 1, 1, 2) != 1 || !m.lead(5, 1, 0) {
		t.Error(m)
	}
	if !m.live(7, 3) || m.live(8, 3) {
		t.Error(m)
	}
	if m.item(0, 2, 0, 1) != 1 || m.item(2, 2, 0, 1) != 2 || m.use != 0 {
		t.Error(m)
	}
	if got, want := m.tell(), (told{inc: 1, floor: 2, top: 2, lowHas: 1, lowOf: 1, highHas: 1, highOf: 1}); got != want {
		t.Error(got, want)
	}
}
