package fabric

import (
	"milepost/api"
	"milepost/msg"
)

// Do: a step.
func (f *Fabric) Do(x api.Step) api.Errno {
	if f == nil {
		return api.ErrNil
	}
	number := f.steps
	f.steps++
	switch x.Kind {
	case api.StepTick:
		return f.tick()
	case api.StepInject:
		return f.inject(x.At, number, x.Head)
	case api.StepDeliver:
		return f.deliver(x.From, x.To, x.I)
	case api.StepLose:
		_, e := f.links.Take(x.From, x.To, x.I)
		return e
	case api.StepTwice:
		return f.links.Twice(x.From, x.To, x.I)
	case api.StepCrash:
		return f.crash(x.At)
	case api.StepStart:
		return f.start(x.At)
	case api.StepPolicy, api.StepCut, api.StepHint:
		e := f.ask(x)
		f.takeOut(f.control)
		return e
	case api.StepCalm:
		return f.calm(x.N)
	case api.StepJunk:
		return f.junk(x.From, x.To, x.Text)
	}
	return api.ErrArg
}

// speaker is the controller, or a switch.
type speaker interface {
	Notes() []api.Note
	Letters() []api.Letter
}

// takeOut puts what happened at one behind the trace, and what it sends on its way.
func (f *Fabric) takeOut(s speaker) {
	f.trace = append(f.trace, s.Notes()...)
	for _, l := range s.Letters() {
		if f.links.Send(l.From, l.To, l.Data) == api.ErrFull {
			f.note(api.Note{Kind: api.NoteOver, At: l.From, To: l.To})
		}
	}
}

func (f *Fabric) note(x api.Note) {
	f.trace = append(f.trace, x)
}

// tick lets time go on, for the controller first.
func (f *Fabric) tick() api.Errno {
	if f.now == api.MaxTicks {
		return api.ErrRange
	}
	f.now++
	f.control.Tick(f.now)
	f.takeOut(f.control)
	for _, s := range f.switches {
		if s.node != nil {
			s.node.Tick(f.now)
			f.takeOut(s.node)
		}
	}
	return api.OK
}

// inject: a header comes from outside.
func (f *Fabric) inject(at int, number int, h api.Header) api.Errno {
	if !f.there(at) {
		return api.ErrArg
	}
	f.note(api.Note{Kind: api.NoteInject, At: at, Index: number, Head: h})
	n := f.up(at)
	if n == nil {
		f.note(api.Note{Kind: api.NoteDrop, At: at, Index: number, Why: api.WhyDown})
		return api.OK
	}
	n.Inject(number, h, f.now)
	f.takeOut(n)
	return api.OK
}

// deliver: a letter comes.
func (f *Fabric) deliver(from int, to int, i int) api.Errno {
	data, e := f.links.Take(from, to, i)
	if e != api.OK {
		return e
	}
	if to == 0 {
		f.control.Take(from, data, f.now)
		f.takeOut(f.control)
		return api.OK
	}
	n := f.up(to)
	if n == nil {
		f.note(api.Note{Kind: api.NoteLost, At: from, To: to})
		return api.OK
	}
	n.Take(from, data, f.now)
	f.takeOut(n)
	return api.OK
}

// crash: a switch falls.
func (f *Fabric) crash(at int) api.Errno {
	if !f.there(at) {
		return api.ErrArg
	}
	n := f.up(at)
	if n == nil {
		return api.ErrDown
	}
	n.Crash()
	f.trace = append(f.trace, n.Notes()...)
	f.note(api.Note{Kind: api.NoteCrash, At: at})
	f.switches[at-1].node = nil
	return api.OK
}

// start: a switch begins anew.
func (f *Fabric) start(at int) api.Errno {
	if !f.there(at) {
		return api.ErrArg
	}
	if f.up(at) != nil {
		return api.ErrBusy
	}
	f.begin(at)
	f.note(api.Note{Kind: api.NoteStart, At: at, Epoch: f.switches[at-1].life})
	return api.OK
}

// ask is for the controller's answer to what it is told from outside.
func (f *Fabric) ask(x api.Step) api.Errno {
	switch x.Kind {
	case api.StepPolicy:
		return f.control.Policy(x.Text, f.now)
	case api.StepCut:
		return f.control.Cut(f.now)
	}
	return f.control.Hint(x.At, x.Weight)
}

// calm is rounds in which all letters come, and those that they bring.
func (f *Fabric) calm(rounds int) api.Errno {
	if rounds < 0 || rounds > api.MaxCalm {
		return api.ErrArg
	}
round:
	for range rounds {
		if e := f.tick(); e != api.OK {
			return e
		}
		for range api.MaxRound {
			from, to, ok := f.links.Oldest()
			if !ok {
				continue round
			}
			f.deliver(from, to, 0)
		}
	}
	return api.OK
}

// junk puts bytes on a link that are no message.
func (f *Fabric) junk(from int, to int, text string) api.Errno {
	if _, e := msg.Decode([]byte(text)); e == api.OK {
		return api.ErrArg
	}
	return f.links.Send(from, to, text)
}
