package tcam

import (
	"math"
	"slices"
	"sort"
	"testing"

	"milepost/api"
)

// What the tests reckon with: one row of slots of all banks, the oldest first, gone through from its beginning each time; headers' bits are asked one by one, apart from package cube.

type model struct {
	room [4]int
	idle int
	hard int
	row  []api.Slot
}

func newModel(cache int, auth int, part int, idle int, hard int) *model {
	return &model{room: [4]int{0, cache, auth, part}, idle: idle, hard: hard}
}

func bit(h api.Header, i int) bool {
	return h[i/8]&(128>>(i%8)) != 0
}

func has(c api.Cube, h api.Header) bool {
	for i := 0; i < api.HeadBits; i++ {
		if bit(c.Mask, i) && bit(c.Value, i) != bit(h, i) {
			return false
		}
	}
	return true
}

func right(c api.Cube) api.Cube {
	for i := 0; i < api.HeadBits; i++ {
		if !bit(c.Mask, i) {
			c.Value[i/8] &^= 128 >> (i % 8)
		}
	}
	return c
}

func bounded(now int) int {
	if now < 0 {
		return 0
	}
	if now > 1<<40 {
		return 1 << 40
	}
	return now
}

func (m *model) slots(bank int) []api.Slot {
	var out []api.Slot
	for _, s := range m.row {
		if s.Bank == bank {
			out = append(out, s)
		}
	}
	return out
}

func (m *model) remove(place int) api.Slot {
	s := m.row[place]
	m.row = append(slices.Clone(m.row[:place]), m.row[place+1:]...)
	return s
}

func (m *model) learn(now int, epoch int, c api.Cube, action int) (api.Slot, bool, api.Errno) {
	if m.room[1] == 0 {
		return api.Slot{}, false, api.ErrFull
	}
	now = bounded(now)
	for i := range m.row {
		s := &m.row[i]
		if s.Bank == 1 && s.Epoch == epoch && s.Cube == right(c) {
			s.Action, s.Born, s.Used, s.Count = action, now, now, 0
			return api.Slot{}, false, api.OK
		}
	}
	var gone api.Slot
	full := len(m.slots(1)) >= m.room[1]
	if full {
		old := -1
		for i, s := range m.row {
			if s.Bank == 1 && (old < 0 || s.Used < m.row[old].Used) {
				old = i
			}
		}
		gone = m.remove(old)
	}
	m.row = append(m.row, api.Slot{Bank: 1, Epoch: epoch, Cube: right(c), Action: action, Born: now, Used: now})
	return gone, full, api.OK
}

func (m *model) lay(s api.Slot) api.Errno {
	if s.Bank != 2 && s.Bank != 3 {
		return api.ErrArg
	}
	for _, other := range m.slots(s.Bank) {
		if other.Epoch == s.Epoch && other.At == s.At {
			return api.ErrTwice
		}
	}
	if len(m.slots(s.Bank)) >= m.room[s.Bank] {
		return api.ErrFull
	}
	s.Cube, s.Born, s.Used, s.Count = right(s.Cube), 0, 0, 0
	m.row = append(m.row, s)
	return api.OK
}

// find is the place in the row of the slot for a header; -1: there is none.
func (m *model) find(epoch int, h api.Header) int {
	var places []int
	for i, s := range m.row {
		if s.Epoch == epoch && has(s.Cube, h) {
			places = append(places, i)
		}
	}
	sort.SliceStable(places, func(a int, b int) bool {
		x, y := m.row[places[a]], m.row[places[b]]
		if x.Bank != y.Bank {
			return x.Bank < y.Bank
		}
		return x.Bank != 1 && x.Order < y.Order
	})
	if len(places) == 0 {
		return -1
	}
	return places[0]
}

func (m *model) look(now int, epoch int, h api.Header) (api.Slot, bool) {
	i := m.find(epoch, h)
	if i < 0 {
		return api.Slot{}, false
	}
	if m.row[i].Count < 1<<40 {
		m.row[i].Count++
	}
	if m.row[i].Bank == 1 {
		m.row[i].Used = bounded(now)
	}
	return m.row[i], true
}

func (m *model) peek(epoch int, h api.Header) (api.Slot, bool) {
	if i := m.find(epoch, h); i >= 0 {
		return m.row[i], true
	}
	return api.Slot{}, false
}

func (m *model) rules(epoch int) []api.Slot {
	var out []api.Slot
	for _, s := range m.slots(2) {
		if s.Epoch != epoch {
			continue
		}
		at := len(out)
		for at > 0 && out[at-1].Order > s.Order {
			at--
		}
		out = slices.Insert(out, at, s)
	}
	return out
}

func (m *model) keep(a int, b int) int {
	many := 0
	for i := len(m.row) - 1; i >= 0; i-- {
		if m.row[i].Epoch != a && m.row[i].Epoch != b {
			m.remove(i)
			many++
		}
	}
	return many
}

func (m *model) tick(now int) []api.Slot {
	now = bounded(now)
	var gone []api.Slot
	for i := 0; i < len(m.row); {
		s := m.row[i]
		idle := m.idle != 0 && s.Used+m.idle <= now
		hard := m.hard != 0 && s.Born+m.hard <= now
		if s.Bank == 1 && (idle || hard) {
			gone = append(gone, m.remove(i))
		} else {
			i++
		}
	}
	return gone
}

// noise is a row of numbers without a pattern, always the same one.
type noise uint64

func (n *noise) next() uint64 {
	*n ^= *n << 13
	*n ^= *n >> 7
	*n ^= *n << 17
	return uint64(*n)
}

func (n *noise) below(many int) int {
	return int(n.next() >> 11 % uint64(many))
}

// header is one of few, so that cubes have many of them.
func (n *noise) header() api.Header {
	return api.Header{byte(n.below(4)) << 6, 0, 0, 0, 0, 0, 0, 0, 0, 0, 0, 0, byte(n.below(3))}
}

// cube has few bits that aren't free, and often bits of Value that say nothing.
func (n *noise) cube() api.Cube {
	c := api.Cube{Value: n.header(), Mask: api.Header{byte(n.below(4)) << 6}}
	if n.below(3) == 0 {
		c.Mask[12] = byte(n.below(4))
	}
	if n.below(3) == 0 {
		c.Value[5] = byte(n.below(256))
	}
	return c
}

// time is near the last one, now and then behind it, ahead of it, or beyond a bound.
func (n *noise) time(last int) int {
	switch n.below(24) {
	case 0:
		return last - n.below(20)
	case 1:
		return []int{math.MinInt, -1, 0}[n.below(3)]
	case 2:
		return []int{api.MaxTicks - 1, api.MaxTicks, api.MaxTicks + 1, math.MaxInt}[n.below(4)]
	}
	return last + n.below(3)
}

func (n *noise) epoch() int {
	return n.below(3) + 1
}

func (n *noise) slot() api.Slot {
	return api.Slot{Bank: n.below(2) + 2, Epoch: n.epoch(), At: n.below(9), Order: n.below(5) - 1, Cube: n.cube(), Action: n.below(100), One: n.below(7), Two: n.below(7), Born: n.below(5), Used: n.below(5), Count: n.below(5)}
}

// TestReckoning holds the reckoning itself against the chapter's examples.
func TestReckoning(t *testing.T) {
	a := api.Cube{Mask: api.Header{128}}
	b := api.Cube{Value: api.Header{128}, Mask: api.Header{128}}
	m := newModel(1, 9, 9, 5, 0)
	if s, gone, e := m.learn(0, 1, a, 3); s != (api.Slot{}) || gone || e != api.OK {
		t.Error(s, gone, e)
	}
	if s, gone, e := m.learn(1, 1, b, 4); s != (api.Slot{Bank: 1, Epoch: 1, Cube: a, Action: 3}) || !gone || e != api.OK {
		t.Error(s, gone, e)
	}
	if l := m.tick(5); len(l) != 0 {
		t.Error(l)
	}
	want := []api.Slot{{Bank: 1, Epoch: 1, Cube: b, Action: 4, Born: 1, Used: 1}}
	if l := m.tick(6); !slices.Equal(l, want) {
		t.Error(l)
	}
}
