package ctl

import (
	"milepost/api"
	"milepost/msg"
)

// Tick: time goes on.
func (c *Ctl) Tick(now int) {
	if c == nil {
		return
	}
	now = min(max(now, 0), api.MaxTicks)
	c.mend(now)
	c.proceed(now)
	for i := range c.setup.Switches {
		if c.in(i+1, now) {
			c.sendItems(i + 1)
			c.sendLead(i+1, now)
		}
	}
}

// mend prepares anew what can't stay with the authorities that it has. What is turned is left to come to its end.
func (c *Ctl) mend(now int) {
	live := c.live(now)
	old := c.prepared
	if old == nil {
		old = c.present
		if old == nil || !old.weak(live) {
			return
		}
	} else if old.turned || !old.orphaned(live) {
		return
	}
	leaves, e := c.cut(old.table, live)
	if e == api.OK && !old.alike(leaves) {
		c.prepare(old.table, leaves, old.Index)
	}
}

// proceed turns the prepared epoch, and makes it the present one, as soon as that may be.
func (c *Ctl) proceed(now int) {
	x := c.prepared
	if x == nil {
		return
	}
	if !x.turned && c.ready(x, now) {
		x.turned = true
		c.note(x.noted(api.NoteTurn))
	}
	if x.turned && c.safe(x, now) {
		c.finish(x)
	}
}

// ready: have all that are in what an epoch needs, and does somebody answer for each leaf?
func (c *Ctl) ready(x *epoch, now int) bool {
	for i, items := range x.items {
		if c.in(i+1, now) && c.known.Have(i+1, x.Number) < len(items) {
			return false
		}
	}
	return !x.orphaned(c.live(now))
}

// safe: can no switch use a lesser epoch any more? Also one that isn't heard may do so.
func (c *Ctl) safe(x *epoch, now int) bool {
	for i := range c.setup.Switches {
		if !c.known.Safe(i+1, x.Number, now, c.setup.Lease) {
			return false
		}
	}
	return true
}

// finish makes the prepared epoch the present one.
func (c *Ctl) finish(x *epoch) {
	if c.present == nil || c.present.Index != x.Index {
		c.note(api.Note{Kind: api.NoteCommit, Index: x.Index})
	}
	c.note(x.noted(api.NoteDone))
	c.present, c.prepared = x, nil
	c.known.Keep(x.Number, x.Number)
}

// floor is the least epoch that counts; 0: there is none.
func (c *Ctl) floor() int {
	if c.present == nil {
		return 0
	}
	return c.present.Number
}

// sendItems sends a switch the next ones that it hasn't.
func (c *Ctl) sendItems(s int) {
	room := c.setup.Window
	for _, x := range []*epoch{c.present, c.prepared} {
		if x == nil {
			continue
		}
		items := x.items[s-1]
		for at := c.known.Have(s, x.Number); at < len(items) && room > 0; at++ {
			m := itemMsg(items[at])
			m.Epoch, m.Of = x.Number, len(items)
			c.send(s, m)
			room--
		}
	}
}

// itemMsg is the message of an item, but for what it has of its epoch and of its switch.
func itemMsg(x api.Slot) api.Msg {
	if x.Bank == api.Part {
		return api.Msg{Kind: api.MsgPart, At: x.At, Cube: x.Cube, One: x.One, Two: x.Two}
	}
	return api.Msg{Kind: api.MsgMod, At: x.At, Order: x.Order, Cube: x.Cube, Action: x.Action}
}

// sendLead tells a switch which epoch to use, now and then.
func (c *Ctl) sendLead(s int, now int) {
	x := c.present
	if c.Turned() {
		x = c.prepared
	}
	if x == nil || now%c.setup.Beat != 0 {
		return
	}
	c.send(s, api.Msg{Kind: api.MsgLead, Sent: now, Use: x.Number})
	c.known.Led(s, x.Number, now)
}

// send puts a letter behind the others: to a switch in its life, with the floor.
func (c *Ctl) send(s int, m api.Msg) {
	m.Inc, m.Floor = c.known.Inc(s), c.floor()
	// The message may be: its numbers are within a message's bounds, and a table's cubes are right.
	data, _ := msg.Encode(m)
	c.letters = append(c.letters, api.Letter{To: s, Data: string(data)})
}
