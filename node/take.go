package node

import (
	"milepost/api"
	"milepost/around"
	"milepost/msg"
)

// Take: a letter comes.
func (n *Node) Take(from int, data string, now int) {
	if n == nil {
		return
	}
	m, e := msg.Decode([]byte(data))
	if e != api.OK || !n.obey(from, m, now) {
		n.note(api.Note{Kind: api.NoteStale})
	}
}

// obey does what a message asks for; false: it is stale.
func (n *Node) obey(from int, m api.Msg, now int) bool {
	told := from == 0 && m.Inc == n.hold.Inc()
	switch m.Kind {
	case api.MsgPart, api.MsgMod:
		return told && n.takeItem(m)
	case api.MsgLead:
		return told && n.takeLead(m)
	case api.MsgRedirect:
		return from != 0 && n.answer(from, m)
	case api.MsgInstall:
		return from != 0 && m.Inc == n.hold.Inc() && n.mayAct(now) && n.install(m, now)
	}
	return false
}

// tidied does something with the hold and tidies behind it; it tells whether another epoch is in use than ahead.
func (n *Node) tidied(do func()) bool {
	floor, top, use := n.hold.Floor(), n.hold.Top(), n.hold.Use()
	do()
	if n.hold.Floor() != floor || n.hold.Top() != top {
		n.table.Keep(n.hold.Floor(), n.hold.Top())
	}
	if n.hold.Use() == use {
		return false
	}
	n.note(api.Note{Kind: api.NoteUse, Epoch: n.hold.Use()})
	return true
}

// takeItem: an item that is there already is acknowledged once more, since the letter that said so may be lost.
func (n *Node) takeItem(m api.Msg) bool {
	var held int
	n.tidied(func() { held = n.hold.Item(m.Floor, m.Epoch, m.At, m.Of) })
	if held == 0 {
		return false
	}
	if held == 1 && n.table.Lay(itemSlot(m)) != api.OK {
		n.note(api.Note{Kind: api.NoteFull, Epoch: m.Epoch})
	}
	many, _ := n.hold.Count(m.Epoch)
	n.send(0, api.Msg{Kind: api.MsgAck, Inc: n.hold.Inc(), Epoch: m.Epoch, At: many})
	return true
}

// itemSlot is the slot of an item: what its kind of message hasn't is zero in it.
func itemSlot(m api.Msg) api.Slot {
	s := api.Slot{Bank: api.Part, Epoch: m.Epoch, At: m.At, Order: m.Order, Cube: m.Cube, Action: m.Action, One: m.One, Two: m.Two}
	if m.Kind == api.MsgMod {
		s.Bank = api.Auth
	}
	return s
}

// takeLead: no lead of this life is stale, whatever comes of it.
func (n *Node) takeLead(m api.Msg) bool {
	if n.tidied(func() { n.hold.Lead(m.Sent, m.Use, m.Floor) }) {
		n.sendBeat()
	}
	return true
}

// answer answers a redirect as an authority, in whatever epoch it speaks of, as long as that is full.
func (n *Node) answer(from int, m api.Msg) bool {
	if !n.hold.Full(m.Epoch) {
		return false
	}
	c, action, ok := around.About(n.rules(m.Epoch), m.Head)
	if !ok {
		return false
	}
	n.load = min(n.load+1, api.MaxNumber)
	n.send(from, api.Msg{Kind: api.MsgInstall, Inc: m.Inc, Seq: m.Seq, Epoch: m.Epoch, Action: action, Cube: c})
	return true
}

// rules are those of an epoch that this switch has as an authority.
func (n *Node) rules(epoch int) []api.Rule {
	var out []api.Rule
	for _, s := range n.table.Rules(epoch) {
		out = append(out, api.Rule{Order: s.Order, Cube: s.Cube, Action: s.Action})
	}
	return out
}

// install takes an answer: for the cache, and for who waits for it.
func (n *Node) install(m api.Msg, now int) bool {
	learnt := m.Epoch == n.hold.Use() && n.learn(m, now)
	x, waits := n.wait.Answer(m.Seq)
	if waits {
		n.emit(x.Index, m.Action)
	}
	return learnt || waits
}

// learn puts an answer into the cache; false: that has no room at all.
func (n *Node) learn(m api.Msg, now int) bool {
	gone, left, e := n.table.Learn(now, m.Epoch, m.Cube, m.Action)
	if e != api.OK {
		return false
	}
	if left {
		n.note(api.Note{Kind: api.NoteEvict, Epoch: gone.Epoch, Action: gone.Action, Cube: gone.Cube})
	}
	n.note(api.Note{Kind: api.NoteLearn, Epoch: m.Epoch, Action: m.Action, Cube: m.Cube})
	return true
}
