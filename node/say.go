package node

import (
	"milepost/api"
	"milepost/msg"
)

// note puts one of this switch behind the others.
func (n *Node) note(x api.Note) {
	x.At = n.number
	n.notes = append(n.notes, x)
}

// send puts a letter behind the others.
func (n *Node) send(to int, m api.Msg) {
	// The message may be: its numbers are within a message's bounds, or came with one.
	data, _ := msg.Encode(m)
	n.letters = append(n.letters, api.Letter{From: n.number, To: to, Data: string(data)})
}

func (n *Node) emit(index int, action int) {
	n.note(api.Note{Kind: api.NoteEmit, Index: index, Action: action})
}

func (n *Node) drop(index int, why int) {
	n.note(api.Note{Kind: api.NoteDrop, Index: index, Why: why})
}

func (n *Node) dropAll(list []api.Asked, why int) {
	for _, x := range list {
		n.drop(x.Index, why)
	}
}

// redirect sends one that waits to an authority of its partition, if there is any.
func (n *Node) redirect(x api.Asked, part api.Slot) {
	to, other := part.One, part.Two
	if x.Sent%2 == 0 {
		to, other = other, to
	}
	if to == 0 {
		to = other
	}
	if to == 0 {
		return
	}
	epoch := n.hold.Use()
	n.send(to, api.Msg{Kind: api.MsgRedirect, Inc: n.hold.Inc(), Seq: x.Seq, Epoch: epoch, Head: x.Head})
	n.note(api.Note{Kind: api.NoteRedirect, Index: x.Index, Epoch: epoch, To: to})
}

// sendBeat tells the controller that this switch is alive, and how far it is.
func (n *Node) sendBeat() {
	top := n.hold.Top()
	many, _ := n.hold.Count(top)
	n.send(0, api.Msg{Kind: api.MsgBeat, Inc: n.hold.Inc(), Use: n.hold.Use(), Epoch: top, At: many, Load: n.load})
}
