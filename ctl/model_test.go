package ctl

import (
	"math"
	"math/big"
	"slices"
	"testing"

	"milepost/api"
	"milepost/cube"
	"milepost/flat"
	"milepost/msg"
	"milepost/plan"
	"milepost/sense"
)

// What the tests reckon with: the chapters' words, one after the other. Each epoch that ever was stands in a row for good, who is present and who is prepared are numbers; of each switch stands all that was said, from which each answer is worked out anew; items are asked of plan each time; messages stay messages.

type model struct {
	s        api.Setup
	of       map[int]*heard
	weights  []float64
	epochs   []made // the number 1 stands first
	present  int    // 0: none
	prepared int
	turned   bool
	accepted int
	letters  []posted
	notes    []api.Note
}

// made is an epoch as it was planned.
type made struct {
	index  int
	table  []api.Rule
	leaves []api.Leaf
}

// heard is all that was said of a switch in its life.
type heard struct {
	inc  int
	when []int    // in which it was heard
	acks [][2]int // epochs, and how many items
	uses []int
	leds [][2]int // epochs, and when
	load []int    // of its beats
}

// posted is a letter that isn't written out yet.
type posted struct {
	to int
	m  api.Msg
}

func plain(s api.Setup) *model {
	m := &model{s: s, of: map[int]*heard{}, weights: make([]float64, s.Authorities)}
	for n := 1; n <= s.Switches; n++ {
		m.of[n] = &heard{}
	}
	return m
}

// tick is a time as it counts.
func tick(now int) int {
	switch {
	case now < 0:
		return 0
	case now > 1<<40:
		return 1 << 40
	}
	return now
}

// gap is how long ago something was.
func gap(now int, then int) *big.Int {
	return new(big.Int).Sub(big.NewInt(int64(tick(now))), big.NewInt(int64(tick(then))))
}

func (m *model) in(n int, now int) bool {
	x := m.of[n]
	return x.inc > 0 && gap(now, x.when[len(x.when)-1]).Cmp(big.NewInt(int64(m.s.Lost))) < 0
}

func (m *model) live(now int) []int {
	var out []int
	for n := 1; n <= m.s.Authorities; n++ {
		if m.in(n, now) {
			out = append(out, n)
		}
	}
	return out
}

func (m *model) have(n int, epoch int) int {
	most := 0
	for _, x := range m.of[n].acks {
		if x[0] == epoch {
			most = max(most, x[1])
		}
	}
	return most
}

func (m *model) safe(n int, epoch int, now int) bool {
	if slices.ContainsFunc(m.of[n].uses, func(use int) bool { return use >= epoch }) {
		return true
	}
	for _, x := range m.of[n].leds {
		if x[0] < epoch && gap(now, x[1]).Cmp(big.NewInt(int64(m.s.Lease))) < 0 {
			return false
		}
	}
	return true
}

func (m *model) note(kind int, epoch int, index int) {
	m.notes = append(m.notes, api.Note{Kind: kind, Epoch: epoch, Index: index})
}

func (m *model) prepare(x made) {
	m.epochs = append(m.epochs, x)
	m.prepared, m.turned = len(m.epochs), false
	m.note(17, len(m.epochs), x.index)
}

func (m *model) refuse(e api.Errno, place int) api.Errno {
	m.notes = append(m.notes, api.Note{Kind: 2, Why: int(e), Place: place})
	return e
}

func (m *model) policy(text string, now int) api.Errno {
	if m.prepared != 0 {
		return m.refuse(17, 0)
	}
	entries, e, place := sense.Read(text)
	if e != 0 {
		return m.refuse(e, place)
	}
	table, e := flat.Compile(entries)
	if e != 0 {
		return m.refuse(e, 0)
	}
	leaves, e := plan.Make(table, m.s, m.live(now), m.weights)
	if e != 0 {
		var wrong api.Errno
		leaves, wrong = plan.Make(table, m.s, []int{1, 2, 3, 4, 5, 6}, m.weights)
		if wrong != 0 {
			return m.refuse(e, 0)
		}
	}
	m.accepted++
	m.note(1, 0, m.accepted)
	m.prepare(made{m.accepted, table, leaves})
	return 0
}

func (m *model) cut(now int) api.Errno {
	if m.present == 0 {
		return 14
	}
	if m.prepared != 0 {
		return 17
	}
	x := m.epochs[m.present-1]
	leaves, e := plan.Make(x.table, m.s, m.live(now), m.weights)
	if e == 0 {
		m.prepare(made{x.index, x.table, leaves})
	}
	return e
}

func (m *model) hint(n int, weight float64) api.Errno {
	if n < 1 || n > m.s.Authorities {
		return 1
	}
	m.weights[n-1] = weight
	return 0
}

// half is what is left of a weight at a beat, and what is new.
func half(old float64, more int) float64 {
	if !(old > 0) {
		old = 0
	}
	if math.IsInf(old, 1) {
		old = math.MaxFloat64
	}
	return min(old/2+float64(max(0, more)), math.MaxFloat64)
}

// take: a message comes; nil: data that is none.
func (m *model) take(from int, x *api.Msg, now int) {
	if x == nil || from < 1 || from > m.s.Switches || !m.says(from, *x, now) {
		m.note(13, 0, 0)
	}
}

// says: false, if it is stale.
func (m *model) says(from int, x api.Msg, now int) bool {
	k := m.of[from]
	switch {
	case x.Kind == 4 && x.Inc == k.inc && k.inc > 0:
		k.acks = append(k.acks, [2]int{x.Epoch, x.At})
	case x.Kind == 5 && x.Inc >= k.inc && x.Inc > 0:
		if x.Inc > k.inc {
			k = &heard{inc: x.Inc, load: []int{0}}
			m.of[from] = k
		}
		k.when = append(k.when, now)
		k.acks = append(k.acks, [2]int{x.Epoch, x.At})
		k.uses = append(k.uses, x.Use)
		if from <= m.s.Authorities {
			m.weights[from-1] = half(m.weights[from-1], x.Load-k.load[len(k.load)-1])
		}
		k.load = append(k.load, x.Load)
	default:
		return false
	}
	return true
}

// holders are those of a leaf.
func holders(l api.Leaf) []int {
	if l.Two == 0 {
		return []int{l.One}
	}
	return []int{l.One, l.Two}
}

func (m *model) mend(now int) {
	live := m.live(now)
	there := func(n int) bool { return slices.Contains(live, n) }
	if m.prepared == 0 && m.present != 0 {
		x := m.epochs[m.present-1]
		bad := false
		for _, l := range x.leaves {
			for _, n := range holders(l) {
				bad = bad || !there(n)
			}
			bad = bad || l.Two == 0 && len(live) > 1
		}
		leaves, e := plan.Make(x.table, m.s, live, m.weights)
		if bad && e == 0 && !sameHolders(leaves, x.leaves) {
			m.prepare(made{x.index, x.table, leaves})
		}
	} else if m.prepared != 0 && !m.turned {
		x := m.epochs[m.prepared-1]
		bad := slices.ContainsFunc(x.leaves, func(l api.Leaf) bool { return !slices.ContainsFunc(holders(l), there) })
		leaves, e := plan.Make(x.table, m.s, live, m.weights)
		if bad && e == 0 {
			m.prepare(made{x.index, x.table, leaves})
		}
	}
}

func sameHolders(a []api.Leaf, b []api.Leaf) bool {
	if len(a) != len(b) {
		return false
	}
	for i := range a {
		if a[i].Cube != b[i].Cube || a[i].One != b[i].One || a[i].Two != b[i].Two {
			return false
		}
	}
	return true
}

func (m *model) goOn(now int) {
	if m.prepared == 0 {
		return
	}
	x := m.epochs[m.prepared-1]
	if !m.turned {
		may := true
		for n := 1; n <= m.s.Switches; n++ {
			may = may && (!m.in(n, now) || m.have(n, m.prepared) >= len(plan.Items(x.leaves, n)))
		}
		for _, l := range x.leaves {
			may = may && slices.ContainsFunc(holders(l), func(n int) bool { return m.in(n, now) })
		}
		if !may {
			return
		}
		m.turned = true
		m.note(18, m.prepared, x.index)
	}
	for n := 1; n <= m.s.Switches; n++ {
		if !m.safe(n, m.prepared, now) {
			return
		}
	}
	if m.present == 0 || m.epochs[m.present-1].index != x.index {
		m.note(3, 0, x.index)
	}
	m.note(19, m.prepared, x.index)
	m.present, m.prepared, m.turned = m.prepared, 0, false
	for _, k := range m.of {
		k.acks = slices.DeleteFunc(k.acks, func(x [2]int) bool { return x[0] != m.present })
	}
}

// sends is what is sent to one switch.
func (m *model) sends(n int, now int) {
	var all []api.Msg
	for _, epoch := range []int{m.present, m.prepared} {
		if epoch == 0 {
			continue
		}
		items := plan.Items(m.epochs[epoch-1].leaves, n)
		for i, x := range items {
			p := api.Msg{Inc: m.of[n].inc, Epoch: epoch, Floor: m.present, At: i, Of: len(items), Cube: x.Cube}
			if x.Bank == 3 {
				p.Kind, p.One, p.Two = 1, x.One, x.Two
			} else {
				p.Kind, p.Order, p.Action = 2, x.Order, x.Action
			}
			if i >= m.have(n, epoch) {
				all = append(all, p)
			}
		}
	}
	use := m.present
	if m.turned {
		use = m.prepared
	}
	all = all[:min(len(all), m.s.Window)]
	if now%m.s.Beat == 0 && use != 0 {
		all = append(all, api.Msg{Kind: 3, Inc: m.of[n].inc, Sent: now, Use: use, Floor: m.present})
		m.of[n].leds = append(m.of[n].leds, [2]int{use, now})
	}
	for _, p := range all {
		m.letters = append(m.letters, posted{n, p})
	}
}

func (m *model) tick(now int) {
	now = tick(now)
	m.mend(now)
	m.goOn(now)
	for n := 1; n <= m.s.Switches; n++ {
		if m.in(n, now) {
			m.sends(n, now)
		}
	}
}

func (m *model) shown(number int) (api.Epoch, bool) {
	if number == 0 {
		return api.Epoch{}, false
	}
	return api.Epoch{Number: number, Index: m.epochs[number-1].index, Leaves: m.epochs[number-1].leaves}, true
}

// TestReckoning holds the reckoning itself against what is written out by hand.
func TestReckoning(t *testing.T) {
	s := setup()
	m := plain(s)
	if m.policy("default -> x", 0) != api.ErrSyntax || m.cut(0) != api.ErrNone || m.policy("default -> drop", 0) != api.OK || m.policy("default -> drop", 0) != api.ErrBusy {
		t.Error(m)
	}
	if want := []api.Note{{Kind: 2, Why: 8, Place: 11}, {Kind: 1, Index: 1}, {Kind: 17, Epoch: 1, Index: 1}, {Kind: 2, Why: 17}}; !slices.Equal(m.notes, want) {
		t.Error(m.notes)
	}
	for n := 1; n <= 3; n++ {
		m.take(n, &api.Msg{Kind: 5, Inc: 7, Load: 3 * n}, 0)
	}
	if !slices.Equal(m.weights, []float64{3, 6}) || m.hint(3, 1) != api.ErrArg || m.hint(2, 1) != api.OK || m.weights[1] != 1 {
		t.Error(m.weights)
	}
	m.notes = nil
	m.tick(2)
	part := func(at int, of int) api.Msg {
		return api.Msg{Kind: 1, Inc: 7, Epoch: 1, At: at, Of: of, One: 1, Two: 2, Cube: cube.All()}
	}
	rule := api.Msg{Kind: 2, Inc: 7, Epoch: 1, At: 1, Of: 2, Cube: cube.All()}
	if want := []posted{{1, part(0, 2)}, {1, rule}, {2, part(0, 2)}, {2, rule}, {3, part(0, 1)}}; !slices.Equal(m.letters, want) || len(m.notes) != 0 {
		t.Error(m.letters)
	}
	for n := 1; n <= 3; n++ {
		m.take(n, &api.Msg{Kind: 4, Inc: 7, Epoch: 1, At: 2 - n/3}, 0)
	}
	m.letters = nil
	m.tick(4)
	if want := []api.Note{{Kind: 18, Epoch: 1, Index: 1}, {Kind: 3, Index: 1}, {Kind: 19, Epoch: 1, Index: 1}}; !slices.Equal(m.notes, want) || m.present != 1 || m.prepared != 0 || m.turned {
		t.Error(m.notes)
	}
	if len(m.letters) != 3 || m.letters[2] != (posted{3, api.Msg{Kind: 3, Inc: 7, Sent: 4, Use: 1, Floor: 1}}) {
		t.Error(m.letters)
	}
	if _, e := msg.Encode(m.letters[2].m); e != api.OK {
		t.Error(e)
	}
}
