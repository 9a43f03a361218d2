package fabric

import (
	"slices"
	"testing"

	"milepost/api"
	"milepost/ctl"
	"milepost/msg"
	"milepost/node"
	"milepost/plan"
)

// plain is a fabric by the chapter's words: all letters stand in one row, the oldest first; who is up stands in a map.
type plain struct {
	s       api.Setup
	clock   int
	number  int
	row     []api.Letter
	control *ctl.Ctl
	up      map[int]*node.Node
	begun   map[int]int
	trace   []api.Note
}

func newPlain(s api.Setup) *plain {
	if !plan.Right(s) {
		return nil
	}
	m := &plain{s: s, up: map[int]*node.Node{}, begun: map[int]int{}}
	m.control, _ = ctl.New(s)
	for n := 1; n <= s.Switches; n++ {
		m.begun[n] = 1
		m.up[n], _ = node.New(n, 1, s)
	}
	return m
}

func (m *plain) address(n int) bool { return 0 <= n && n <= m.s.Switches }

func (m *plain) isSwitch(n int) bool { return n != 0 && m.address(n) }

func (m *plain) count(from int, to int) int {
	n := 0
	for _, l := range m.row {
		if l.From == from && l.To == to {
			n++
		}
	}
	return n
}

// find is where a link's i-th letter stands among all.
func (m *plain) find(from int, to int, i int) (int, api.Errno) {
	if !m.address(from) || !m.address(to) {
		return 0, api.ErrArg
	}
	for at, l := range m.row {
		if l.From != from || l.To != to {
			continue
		}
		if i == 0 {
			return at, api.OK
		}
		i--
	}
	return 0, api.ErrNone
}

func (m *plain) send(l api.Letter) api.Errno {
	switch {
	case !m.address(l.From) || !m.address(l.To):
		return api.ErrArg
	case m.count(l.From, l.To) >= m.s.Queue:
		return api.ErrFull
	}
	m.row = append(m.row, l)
	return api.OK
}

func (m *plain) out(notes []api.Note, letters []api.Letter) {
	m.trace = append(m.trace, notes...)
	for _, l := range letters {
		if m.send(l) == api.ErrFull {
			m.trace = append(m.trace, api.Note{Kind: api.NoteOver, At: l.From, To: l.To})
		}
	}
}

func (m *plain) ctlOut() { m.out(m.control.Notes(), m.control.Letters()) }

func (m *plain) nodeOut(n int) { m.out(m.up[n].Notes(), m.up[n].Letters()) }

func (m *plain) tick() api.Errno {
	if m.clock >= api.MaxTicks {
		return api.ErrRange
	}
	m.clock++
	m.control.Tick(m.clock)
	m.ctlOut()
	for n := 1; n <= m.s.Switches; n++ {
		if m.up[n] != nil {
			m.up[n].Tick(m.clock)
			m.nodeOut(n)
		}
	}
	return api.OK
}

// comes lets the letter at a place among all come.
func (m *plain) comes(at int) {
	l := m.row[at]
	m.row = slices.Concat(m.row[:at], m.row[at+1:])
	switch {
	case l.To == 0:
		m.control.Take(l.From, l.Data, m.clock)
		m.ctlOut()
	case m.up[l.To] == nil:
		m.trace = append(m.trace, api.Note{Kind: api.NoteLost, At: l.From, To: l.To})
	default:
		m.up[l.To].Take(l.From, l.Data, m.clock)
		m.nodeOut(l.To)
	}
}

func (m *plain) inject(x api.Step, number int) api.Errno {
	if !m.isSwitch(x.At) {
		return api.ErrArg
	}
	m.trace = append(m.trace, api.Note{Kind: api.NoteInject, At: x.At, Index: number, Head: x.Head})
	if m.up[x.At] == nil {
		m.trace = append(m.trace, api.Note{Kind: api.NoteDrop, At: x.At, Index: number, Why: api.WhyDown})
		return api.OK
	}
	m.up[x.At].Inject(number, x.Head, m.clock)
	m.nodeOut(x.At)
	return api.OK
}

func (m *plain) letter(x api.Step) api.Errno {
	at, e := m.find(x.From, x.To, x.I)
	if e != api.OK {
		return e
	}
	switch x.Kind {
	case api.StepDeliver:
		m.comes(at)
	case api.StepLose:
		m.row = slices.Concat(m.row[:at], m.row[at+1:])
	case api.StepTwice:
		return m.send(m.row[at])
	}
	return api.OK
}

func (m *plain) falls(x api.Step) api.Errno {
	switch {
	case !m.isSwitch(x.At):
		return api.ErrArg
	case x.Kind == api.StepCrash && m.up[x.At] == nil:
		return api.ErrDown
	case x.Kind == api.StepStart && m.up[x.At] != nil:
		return api.ErrBusy
	case x.Kind == api.StepCrash:
		m.up[x.At].Crash()
		m.trace = append(m.trace, m.up[x.At].Notes()...)
		m.trace = append(m.trace, api.Note{Kind: api.NoteCrash, At: x.At})
		delete(m.up, x.At)
	default:
		m.begun[x.At]++
		m.up[x.At], _ = node.New(x.At, m.begun[x.At], m.s)
		m.trace = append(m.trace, api.Note{Kind: api.NoteStart, At: x.At, Epoch: m.begun[x.At]})
	}
	return api.OK
}

func (m *plain) rules(x api.Step) api.Errno {
	var e api.Errno
	switch x.Kind {
	case api.StepPolicy:
		e = m.control.Policy(x.Text, m.clock)
	case api.StepCut:
		e = m.control.Cut(m.clock)
	case api.StepHint:
		e = m.control.Hint(x.At, x.Weight)
	}
	m.ctlOut()
	return e
}

func (m *plain) calm(n int) api.Errno {
	if n < 0 || n > 400 {
		return api.ErrArg
	}
	for ; n > 0; n-- {
		if e := m.tick(); e != api.OK {
			return e
		}
		for i := 0; i < 20000 && len(m.row) > 0; i++ {
			m.comes(0)
		}
	}
	return api.OK
}

func (m *plain) do(x api.Step) api.Errno {
	number := m.number
	m.number++
	switch x.Kind {
	case 1:
		return m.tick()
	case 2:
		return m.inject(x, number)
	case 3, 4, 5:
		return m.letter(x)
	case 6, 7:
		return m.falls(x)
	case 8, 9, 10:
		return m.rules(x)
	case 11:
		return m.calm(x.N)
	case 12:
		if _, e := msg.Decode([]byte(x.Text)); e != api.OK {
			return m.send(api.Letter{From: x.From, To: x.To, Data: x.Text})
		}
	}
	return api.ErrArg
}

func (m *plain) status(n int) api.Status {
	if m.up[n] != nil {
		return m.up[n].Status(m.clock)
	}
	return api.Status{Inc: m.begun[n]}
}

// TestReckoning holds the reckoning against the chapter's example.
func TestReckoning(t *testing.T) {
	m := newPlain(setup())
	for _, x := range []api.Step{policy("default -> port 7"), calm(20), inject(3, port(1)), calm(1), inject(3, port(2))} {
		if e := m.do(x); e != api.OK {
			t.Fatal(x, e)
		}
	}
	var got []api.Note
	for _, x := range m.trace {
		if x.Kind == api.NoteInject || x.Kind == api.NoteRedirect || x.Kind == api.NoteEmit {
			got = append(got, x)
		}
	}
	want := []api.Note{{Kind: api.NoteInject, At: 3, Index: 2, Head: port(1)}, {Kind: api.NoteRedirect, At: 3, Index: 2, Epoch: 1, To: 1}, {Kind: api.NoteEmit, At: 3, Index: 2, Action: 7},
		{Kind: api.NoteInject, At: 3, Index: 4, Head: port(2)}, {Kind: api.NoteEmit, At: 3, Index: 4, Action: 7}}
	if !slices.Equal(got, want) {
		t.Error(got)
	}
}
