package node

import (
	"math/big"
	"slices"
	"testing"

	"milepost/api"
	"milepost/around"
	"milepost/cube"
)

// What the tests reckon with: the chapters' words, one after the other. Slots of all banks stand in one row, epochs' items in a map without a bound, and what a floor, a top and a lead do is done here anew; who waits is never taken from the row, but marked; messages stay messages.

type model struct {
	at, inc  int
	s        api.Setup
	row      []api.Slot // the oldest first
	floor    int
	top      int
	use      int
	said     int
	items    map[int][2]int
	asked    []api.Asked
	over     []bool // of each that was asked
	answered int
	letters  []posted
	notes    []api.Note
}

// posted is a letter that isn't written out yet.
type posted struct {
	to int
	m  api.Msg
}

func plain(at int, inc int, s api.Setup) *model {
	return &model{at: at, inc: inc, s: s, items: map[int][2]int{}}
}

// tick is a time as it counts.
func tick(now int) int {
	switch {
	case now < 0:
		return 0
	case now > 1<<40:
		return 1 << 40
	}
	return now
}

func (m *model) tell(kind int, change func(x *api.Note)) {
	x := api.Note{Kind: kind, At: m.at}
	change(&x)
	m.notes = append(m.notes, x)
}

func (m *model) stale() {
	m.tell(13, func(x *api.Note) {})
}

func (m *model) emit(index int, action int) {
	m.tell(5, func(x *api.Note) { x.Index, x.Action = index, action })
}

func (m *model) drop(index int, why int) {
	m.tell(6, func(x *api.Note) { x.Index, x.Why = index, why })
}

func (m *model) told(kind int, s api.Slot) {
	m.tell(kind, func(x *api.Note) { x.Epoch, x.Action, x.Cube = s.Epoch, s.Action, s.Cube })
}

func (m *model) post(to int, x api.Msg) {
	m.letters = append(m.letters, posted{to, x})
}

func (m *model) beat() {
	m.post(0, api.Msg{Kind: 5, Inc: m.inc, Use: m.use, Epoch: m.top, At: m.items[m.top][0], Load: m.answered})
}

func (m *model) live(now int) bool {
	if m.use == 0 {
		return false
	}
	gap := new(big.Int).Sub(big.NewInt(int64(tick(now))), big.NewInt(int64(m.said)))
	return gap.Cmp(big.NewInt(int64(m.s.Lease))) < 0
}

func (m *model) bank(bank int) []api.Slot {
	return slices.DeleteFunc(slices.Clone(m.row), func(s api.Slot) bool { return s.Bank != bank })
}

// look is the place of the slot for a header, which counts; -1: there is none.
func (m *model) look(h api.Header, now int) int {
	best := -1
	for i, s := range m.row {
		if s.Epoch != m.use || !cube.Has(s.Cube, h) {
			continue
		}
		if best < 0 || s.Bank < m.row[best].Bank || s.Bank > 1 && s.Bank == m.row[best].Bank && s.Order < m.row[best].Order {
			best = i
		}
	}
	if best >= 0 {
		m.row[best].Count++
		if m.row[best].Bank == 1 {
			m.row[best].Used = tick(now)
		}
	}
	return best
}

func (m *model) waiting() []api.Asked {
	var out []api.Asked
	for i, x := range m.asked {
		if !m.over[i] {
			out = append(out, x)
		}
	}
	return out
}

func (m *model) redirect(x api.Asked, s api.Slot) {
	turns := []int{s.Two, s.One}
	to := turns[x.Sent%2]
	if to == 0 {
		to = turns[1-x.Sent%2]
	}
	if to == 0 {
		return
	}
	m.post(to, api.Msg{Kind: 6, Inc: m.inc, Seq: x.Seq, Epoch: m.use, Head: x.Head})
	m.tell(9, func(n *api.Note) { n.Index, n.Epoch, n.To = x.Index, m.use, to })
}

func (m *model) inject(index int, h api.Header, now int) {
	if !m.live(now) {
		m.drop(index, 2)
		return
	}
	i := m.look(h, now)
	switch {
	case i < 0:
		m.drop(index, 6)
	case m.row[i].Bank < 3:
		m.emit(index, m.row[i].Action)
	case len(m.waiting()) >= m.s.Wait:
		m.drop(index, 3)
	default:
		m.asked = append(m.asked, api.Asked{Seq: len(m.asked) + 1, Index: index, Head: h, Sent: 1, Due: tick(now) + m.s.Time})
		m.over = append(m.over, false)
		m.redirect(m.asked[len(m.asked)-1], m.row[i])
	}
}

// tidy runs what is done with floor, top and epoch in use, and tidies; whether another one is in use.
func (m *model) tidy(do func()) bool {
	floor, top, use := m.floor, m.top, m.use
	do()
	if m.floor != floor || m.top != top {
		m.row = slices.DeleteFunc(m.row, func(s api.Slot) bool { return s.Epoch != m.floor && s.Epoch != m.top })
	}
	if m.use != use {
		m.tell(16, func(x *api.Note) { x.Epoch = m.use })
	}
	return m.use != use
}

func (m *model) comeToFloor(f int) {
	if f <= m.floor {
		return
	}
	m.floor = f
	for epoch := range m.items {
		if epoch < f {
			delete(m.items, epoch)
		}
	}
	if m.use < f {
		m.use = 0
	}
	if m.top < f {
		m.top = f
	}
}

func (m *model) comeToEpoch(e int) {
	if e <= m.top {
		return
	}
	m.top = e
	for epoch := range m.items {
		if epoch != e && epoch != m.floor {
			delete(m.items, epoch)
		}
	}
	if m.use != e && m.use != m.floor {
		m.use = 0
	}
}

func (m *model) full(epoch int) bool {
	x := m.items[epoch]
	return (epoch == m.floor || epoch == m.top) && x[0] >= 1 && x[0] == x[1]
}

func (m *model) hold(x api.Msg) int {
	if x.Epoch < 1 || x.Of <= x.At {
		return 0
	}
	m.comeToFloor(x.Floor)
	m.comeToEpoch(x.Epoch)
	has := m.items[x.Epoch]
	switch {
	case x.Epoch != m.floor && x.Epoch != m.top, has[0] > 0 && has[1] != x.Of, has[0] < x.At:
		return 0
	case has[0] > x.At:
		return 2
	}
	m.items[x.Epoch] = [2]int{has[0] + 1, x.Of}
	return 1
}

func (m *model) item(x api.Msg) {
	var what int
	m.tidy(func() { what = m.hold(x) })
	if what == 0 {
		m.stale()
		return
	}
	if what == 1 {
		s := api.Slot{Bank: 3, Epoch: x.Epoch, At: x.At, Cube: x.Cube, One: x.One, Two: x.Two}
		room := m.s.Part
		if x.Kind == 2 {
			s = api.Slot{Bank: 2, Epoch: x.Epoch, At: x.At, Order: x.Order, Cube: x.Cube, Action: x.Action}
			room = m.s.Auth
		}
		if len(m.bank(s.Bank)) < room {
			m.row = append(m.row, s)
		} else {
			m.tell(20, func(n *api.Note) { n.Epoch = x.Epoch })
		}
	}
	m.post(0, api.Msg{Kind: 4, Inc: m.inc, Epoch: x.Epoch, At: m.items[x.Epoch][0]})
}

func (m *model) lead(x api.Msg) {
	another := m.tidy(func() {
		m.comeToFloor(x.Floor)
		if !m.full(x.Use) || x.Use < m.use {
			return
		}
		if m.use != x.Use || x.Sent > m.said {
			m.said = x.Sent
		}
		m.use = x.Use
	})
	if another {
		m.beat()
	}
}

func (m *model) answer(from int, x api.Msg) {
	var rules []api.Rule
	for _, s := range m.bank(2) {
		if s.Epoch == x.Epoch {
			rules = append(rules, api.Rule{Order: s.Order, Cube: s.Cube, Action: s.Action})
		}
	}
	slices.SortStableFunc(rules, func(a api.Rule, b api.Rule) int { return a.Order - b.Order })
	c, action, ok := around.About(rules, x.Head)
	if from == 0 || !m.full(x.Epoch) || !ok {
		m.stale()
		return
	}
	m.answered++
	m.post(from, api.Msg{Kind: 7, Inc: x.Inc, Seq: x.Seq, Epoch: x.Epoch, Action: action, Cube: c})
}

func (m *model) learn(x api.Msg, now int) {
	fresh := api.Slot{Bank: 1, Epoch: x.Epoch, Cube: x.Cube, Action: x.Action, Born: tick(now), Used: tick(now)}
	there := slices.IndexFunc(m.row, func(s api.Slot) bool { return s.Bank == 1 && s.Epoch == x.Epoch && s.Cube == x.Cube })
	if there >= 0 {
		m.row[there] = fresh
	} else {
		if cache := m.bank(1); len(cache) >= m.s.Cache {
			gone := cache[0]
			for _, s := range cache {
				if s.Used < gone.Used {
					gone = s
				}
			}
			m.row = slices.DeleteFunc(m.row, func(s api.Slot) bool { return s == gone })
			m.told(11, gone)
		}
		m.row = append(m.row, fresh)
	}
	m.told(10, fresh)
}

func (m *model) install(from int, x api.Msg, now int) {
	if from == 0 || x.Inc != m.inc || !m.live(now) {
		m.stale()
		return
	}
	neither := true
	if x.Epoch == m.use && m.s.Cache > 0 {
		m.learn(x, now)
		neither = false
	}
	if i := x.Seq - 1; i >= 0 && i < len(m.asked) && !m.over[i] {
		m.over[i] = true
		m.emit(m.asked[i].Index, x.Action)
		neither = false
	}
	if neither {
		m.stale()
	}
}

// take takes a message, or, if it is nil, data that is none.
func (m *model) take(from int, x *api.Msg, now int) {
	switch {
	case x == nil:
		m.stale()
	case x.Kind <= 3 && (from != 0 || x.Inc != m.inc):
		m.stale()
	case x.Kind <= 2:
		m.item(*x)
	case x.Kind == 3:
		m.lead(*x)
	case x.Kind == 6:
		m.answer(from, *x)
	case x.Kind == 7:
		m.install(from, *x, now)
	default:
		m.stale()
	}
}

func (m *model) age(now int) {
	old := func(since int, bound int) bool { return bound > 0 && since+bound <= tick(now) }
	var stay []api.Slot
	for _, s := range m.row {
		if s.Bank == 1 && (old(s.Used, m.s.Idle) || old(s.Born, m.s.Hard)) {
			m.told(12, s)
			continue
		}
		stay = append(stay, s)
	}
	m.row = stay
}

func (m *model) tick(now int) {
	m.age(now)
	var late []int
	for i := range m.asked {
		x := &m.asked[i]
		if m.over[i] || x.Due > tick(now) {
			continue
		}
		if x.Sent > m.s.Tries {
			m.over[i] = true
			late = append(late, x.Index)
			continue
		}
		x.Sent++
		x.Due = tick(now) + m.s.Time
		if !m.live(now) {
			continue
		}
		k := m.look(x.Head, now)
		if k >= 0 && m.row[k].Bank == 3 {
			m.redirect(*x, m.row[k])
		} else if k >= 0 {
			m.over[i] = true
			m.emit(x.Index, m.row[k].Action)
		}
	}
	for _, index := range late {
		m.drop(index, 4)
	}
	if now/m.s.Beat*m.s.Beat == now {
		m.beat()
	}
}

func (m *model) crash() {
	for i, x := range m.asked {
		if !m.over[i] {
			m.over[i] = true
			m.drop(x.Index, 5)
		}
	}
}

func (m *model) status(now int) api.Status {
	return api.Status{Up: true, Inc: m.inc, Use: m.use, Live: m.live(now), Floor: m.floor, Top: m.top, Cache: len(m.bank(1)), Auth: len(m.bank(2)), Part: len(m.bank(3)), Wait: len(m.waiting()), Load: m.answered}
}

// TestReckoning holds the reckoning itself against the chapter's example.
func TestReckoning(t *testing.T) {
	m := plain(1, 1, setup())
	h := api.Header{9}
	m.inject(5, h, 0)
	m.take(0, &api.Msg{Kind: api.MsgPart, Inc: 1, Epoch: 1, Of: 1, Cube: cube.All(), One: 2}, 3)
	m.take(0, &api.Msg{Kind: api.MsgLead, Inc: 1, Sent: 3, Use: 1}, 3)
	m.inject(6, h, 3)
	m.take(2, &api.Msg{Kind: api.MsgInstall, Inc: 1, Seq: 1, Epoch: 1, Action: 8, Cube: cube.All()}, 4)
	m.inject(7, api.Header{200}, 4)
	want := []api.Note{
		{Kind: api.NoteDrop, At: 1, Index: 5, Why: api.WhyLease},
		{Kind: api.NoteUse, At: 1, Epoch: 1},
		{Kind: api.NoteRedirect, At: 1, Index: 6, Epoch: 1, To: 2},
		{Kind: api.NoteLearn, At: 1, Epoch: 1, Action: 8, Cube: cube.All()},
		{Kind: api.NoteEmit, At: 1, Index: 6, Action: 8},
		{Kind: api.NoteEmit, At: 1, Index: 7, Action: 8},
	}
	if !slices.Equal(m.notes, want) {
		t.Error(m.notes)
	}
	if l := m.letters; len(l) != 3 || l[2] != (posted{2, ask(1, 1, 1, h)}) || l[1].m != (api.Msg{Kind: api.MsgBeat, Inc: 1, Use: 1, Epoch: 1, At: 1}) {
		t.Error(l)
	}
}
