package ctl

import (
	"milepost/api"
	"milepost/msg"
	"milepost/score"
)

// Take: a letter comes.
func (c *Ctl) Take(from int, data string, now int) {
	if c == nil {
		return
	}
	m, e := msg.Decode([]byte(data))
	if e != api.OK || !c.hear(from, m, now) {
		c.note(api.Note{Kind: api.NoteStale})
	}
}

// hear takes what a switch tells; false: it is stale. Of addresses where no switch is the roll takes nothing.
func (c *Ctl) hear(from int, m api.Msg, now int) bool {
	switch m.Kind {
	case api.MsgBeat:
		return c.hearBeat(from, m, now)
	case api.MsgAck:
		return c.known.Ack(from, m.Inc, m.Epoch, m.At)
	}
	return false
}

// hearBeat: a switch is alive, and tells how far it is.
func (c *Ctl) hearBeat(from int, m api.Msg, now int) bool {
	life := c.known.Inc(from)
	if !c.known.Hear(from, m.Inc, now) {
		return false
	}
	c.known.Ack(from, m.Inc, m.Epoch, m.At)
	c.known.Seen(from, m.Inc, m.Use)
	if c.authority(from) {
		c.weigh(from, m.Load, m.Inc != life)
	}
	return true
}

// weigh lets an authority weigh more by what it has answered since its last beat.
func (c *Ctl) weigh(n int, load int, newborn bool) {
	if newborn {
		c.loads[n-1] = 0
	}
	// A beat that comes late may tell less than the last one did: that counts for nothing.
	c.weights[n-1] = score.Decay(c.weights[n-1], load-c.loads[n-1])
	c.loads[n-1] = load
}
