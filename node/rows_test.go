package node

import (
	"math"
	"slices"
	"testing"

	"milepost/api"
	"milepost/cube"
	"milepost/msg"
)

// noise is a row of numbers without a pattern, always the same one.
type noise uint64

func (n *noise) next() uint64 {
	*n ^= *n << 13
	*n ^= *n >> 7
	*n ^= *n << 17
	return uint64(*n)
}

func (n *noise) below(many int) int {
	return int(n.next() >> 11 % uint64(many))
}

// header is one of few, so that cubes have many of them.
func (n *noise) header() api.Header {
	return api.Header{byte(n.below(8)) << 5}
}

func (n *noise) cube() api.Cube {
	return front([]string{"", "", "0", "1", "00", "01", "10", "11", "010", "111"}[n.below(10)])
}

// setup is of small rooms and short times.
func (n *noise) setup() api.Setup {
	s := setup()
	s.Cache, s.Auth, s.Part = n.below(4), 2+n.below(8), 2+n.below(8)
	s.Idle, s.Hard = n.below(3)*n.below(6), n.below(3)*n.below(9)
	s.Wait, s.Tries, s.Time = 1+n.below(4), 1+n.below(3), 2+n.below(4)
	s.Beat = 1 + n.below(3)
	s.Lease = 3*s.Beat + n.below(20)
	return s
}

// switches is how many there are in a world.
const switches = 3

// flying is a message on its way, or, if it is none, bytes.
type flying struct {
	from, to int
	m        *api.Msg
	bytes    string
}

// one is a switch beside the reckoning of the same calls, and what became of its injections.
type one struct {
	n    *Node
	m    *model
	came map[int]int // of each injection, how often it was redirected
	over map[int]int // how often it was emitted or dropped
}

// world is switches that send letters to each other; the test speaks for the controller. Letters come in any order, get lost, and come twice.
type world struct {
	t     *testing.T
	noise noise
	s     api.Setup
	now   int
	steps int
	seed  int
	epoch int // the one that the controller is at
	all   [switches + 1]*one
	bag   []flying
	seen  map[int]int // kinds of notes
	whys  map[int]int
	taken map[int]int // kinds of messages that were taken and weren't stale
}

func (w *world) begin(at int, inc int) {
	n, e := New(at, inc, w.s)
	if e != api.OK {
		w.t.Fatal(w.s, e)
	}
	w.all[at] = &one{n: n, m: plain(at, inc, w.s), came: map[int]int{}, over: map[int]int{}}
}

// items are those of an epoch for a switch: always the same ones.
func (w *world) items(epoch int, at int, inc int) []api.Msg {
	own := noise(1 + 1000003*w.seed + 8191*epoch + 127*at)
	for range 9 {
		own.next()
	}
	of := 1 + own.below(5)
	var out []api.Msg
	for i := range of {
		m := api.Msg{Kind: 1 + own.below(2), Inc: inc, Epoch: epoch, At: i, Of: of, Cube: own.cube()}
		if m.Kind == api.MsgPart {
			m.One, m.Two = own.below(switches+1), own.below(switches+1)
		} else {
			m.Order, m.Action = own.below(4), own.below(100)
			if own.below(3) == 0 {
				m.Cube = cube.All()
			}
		}
		out = append(out, m)
	}
	return out
}

// tells puts something that the controller says to a switch into the bag: mostly what comes next there.
func (w *world) tells(at int) {
	x := w.all[at].m
	epoch, floor := w.epoch, max(0, w.epoch-1)
	switch k := w.noise.below(100); {
	case k < 20:
		epoch = max(1, w.epoch-1)
	case k < 23:
		epoch = w.noise.below(w.epoch + 1)
	case k < 24:
		epoch = w.epoch + 1
	case k < 26:
		floor = w.noise.below(w.epoch + 1)
	case k < 40:
		floor = max(0, w.epoch-2)
	}
	m := api.Msg{Kind: api.MsgLead, Inc: x.inc, Sent: max(0, w.now-w.noise.below(4)), Use: epoch, Floor: floor}
	if !x.full(epoch) && w.noise.below(6) > 0 || w.noise.below(6) == 0 {
		list := w.items(epoch, at, x.inc)
		next := min(x.items[epoch][0], len(list)-1)
		if w.noise.below(6) == 0 {
			next = w.noise.below(len(list))
		}
		m = list[next]
		m.Floor = floor
		if w.noise.below(40) == 0 {
			m.Of += w.noise.below(3)
		}
	}
	if w.noise.below(30) == 0 {
		m.Inc = max(0, m.Inc-1+2*w.noise.below(2))
	}
	from := 0
	if w.noise.below(30) == 0 {
		from = w.noise.below(switches + 2)
	}
	w.bag = append(w.bag, flying{from: from, to: at, m: &m})
}

// strange puts something into the bag that nobody would send.
func (w *world) strange(at int) {
	x := w.all[at].m
	from := w.noise.below(switches + 1)
	asked := x.waiting()
	seq := w.noise.below(len(x.asked) + 2)
	if len(asked) > 0 && w.noise.below(4) == 0 {
		seq = asked[w.noise.below(len(asked))].Seq
	}
	epoch := x.use
	if w.noise.below(3) == 0 {
		epoch = max(0, x.top-1+w.noise.below(3))
	}
	var m api.Msg
	switch w.noise.below(5) {
	case 0:
		w.bag = append(w.bag, flying{from: from, to: at, bytes: []string{"", "junk", "\x00\x00\x01"}[w.noise.below(3)]})
		return
	case 1:
		m = api.Msg{Kind: api.MsgRedirect, Inc: 1 + w.noise.below(9), Seq: seq, Epoch: epoch, Head: w.noise.header()}
	case 2, 3:
		m = api.Msg{Kind: api.MsgInstall, Inc: x.inc - w.noise.below(12)/11, Seq: seq, Epoch: epoch, Action: w.noise.below(100), Cube: w.noise.cube()}
	default:
		m = []api.Msg{ack(epoch, 1), beat(epoch, epoch, 1, 1)}[w.noise.below(2)]
	}
	w.bag = append(w.bag, flying{from: from, to: at, m: &m})
}

// time is mostly now, at times one of any size.
func (w *world) time() int {
	if w.noise.below(80) == 0 {
		all := far()
		return all[w.noise.below(len(all))]
	}
	return w.now
}

// call runs a call of both, the node and the reckoning, and holds all that they tell against each other; what was sent goes into the bag.
func (w *world) call(at int, now int, run func(x *one)) []posted {
	w.t.Helper()
	x := w.all[at]
	live := x.m.live(now)
	run(x)
	notes := x.n.Notes()
	if !slices.Equal(notes, x.m.notes) {
		w.t.Fatalf("seed %d, step %d: notes: %v, want %v", w.seed, w.steps, notes, x.m.notes)
	}
	var want []api.Letter
	sent := x.m.letters
	for _, p := range sent {
		want = append(want, api.Letter{From: at, To: p.to, Data: data(w.t, p.m)})
		m := p.m
		if p.to != 0 {
			w.bag = append(w.bag, flying{from: at, to: p.to, m: &m})
		}
	}
	if got := x.n.Letters(); !slices.Equal(got, want) {
		w.t.Fatalf("seed %d, step %d: letters: %v, want %v", w.seed, w.steps, got, want)
	}
	x.m.notes, x.m.letters = nil, nil
	w.same(x)
	w.follows(x, live, notes)
	return sent
}

// same holds what a node tells of itself against the reckoning.
func (w *world) same(x *one) {
	w.t.Helper()
	for _, now := range []int{w.now, w.now + w.s.Lease - 1, w.now + w.s.Lease, w.time()} {
		if got, want := x.n.Status(now), x.m.status(now); got != want {
			w.t.Fatalf("seed %d, step %d: Status(%d): %+v, want %+v", w.seed, w.steps, now, got, want)
		}
	}
	for bank := range 5 {
		if got, want := x.n.Slots(bank), x.m.bank(bank); !slices.Equal(got, want) {
			w.t.Fatalf("seed %d, step %d: Slots(%d): %v, want %v", w.seed, w.steps, bank, got, want)
		}
	}
	if got, want := x.n.Waiting(), x.m.waiting(); !slices.Equal(got, want) {
		w.t.Fatalf("seed %d, step %d: Waiting: %v, want %v", w.seed, w.steps, got, want)
	}
}

// follows is P20.6, of the notes of one call.
func (w *world) follows(x *one, live bool, notes []api.Note) {
	w.t.Helper()
	for _, note := range notes {
		w.seen[note.Kind]++
		switch note.Kind {
		case api.NoteEmit, api.NoteDrop:
			w.whys[note.Why]++
			if _, ok := x.came[note.Index]; !ok || x.over[note.Index] > 0 {
				w.t.Fatal("over twice, or never came:", note)
			}
			x.over[note.Index]++
		case api.NoteRedirect:
			if _, ok := x.came[note.Index]; !ok || x.over[note.Index] > 0 {
				w.t.Fatal("redirected, but over:", note)
			}
			x.came[note.Index]++
			if x.came[note.Index] > w.s.Tries+1 {
				w.t.Fatal("redirected too often:", note)
			}
		}
		if (note.Kind == api.NoteEmit || note.Kind == api.NoteLearn) && !live {
			w.t.Fatal("without a lease:", note)
		}
	}
	for _, asked := range x.n.Waiting() {
		if x.over[asked.Index] > 0 {
			w.t.Fatal("over, but waits:", asked)
		}
	}
}

// comes takes a letter out of the bag: it comes, or gets lost; at times it stays there as well.
func (w *world) comes() {
	if len(w.bag) == 0 {
		return
	}
	// Mostly one of the latest, so that answers often come in time.
	i := w.noise.below(len(w.bag))
	if w.noise.below(3) > 0 {
		i = max(0, len(w.bag)-1-w.noise.below(6))
	}
	f := w.bag[i]
	if w.noise.below(6) > 0 {
		w.bag = slices.Delete(w.bag, i, i+1)
	}
	if f.to < 1 || f.to > switches || w.noise.below(12) == 0 {
		return
	}
	w.brings(f)
}

// brings: a letter comes. What is sent on a redirect goes to who asked, and is no redirect.
func (w *world) brings(f flying) {
	w.t.Helper()
	bytes := f.bytes
	if f.m != nil {
		bytes = data(w.t, *f.m)
	}
	now := w.time()
	stales := w.seen[api.NoteStale]
	sent := w.call(f.to, now, func(x *one) {
		x.n.Take(f.from, bytes, now)
		x.m.take(f.from, f.m, now)
	})
	if f.m == nil {
		return
	}
	if w.seen[api.NoteStale] == stales {
		w.taken[f.m.Kind]++
	}
	if f.m.Kind == api.MsgRedirect && (len(sent) > 1 || len(sent) == 1 && (sent[0].to != f.from || sent[0].m.Kind != api.MsgInstall)) {
		w.t.Fatal("on a redirect:", sent)
	}
	if f.m.Kind == api.MsgInstall && len(sent) > 0 {
		w.t.Fatal("on an answer:", sent)
	}
}

func (w *world) injects(at int) {
	index, h, now := w.steps, w.noise.header(), w.time()
	w.all[at].came[index] = 0
	w.call(at, now, func(x *one) {
		x.n.Inject(index, h, now)
		x.m.inject(index, h, now)
	})
}

func (w *world) step() {
	w.steps++
	if w.noise.below(250) == 0 {
		w.epoch++
	}
	at := 1 + w.noise.below(switches)
	switch k := w.noise.below(100); {
	case k < 24:
		w.tells(at)
	case k < 60:
		w.comes()
	case k < 76:
		w.injects(at)
	case k < 82:
		w.strange(at)
	case k < 98:
		now := w.time()
		if now == w.now && w.noise.below(3) == 0 {
			w.now++
			now++
		}
		w.call(at, now, func(x *one) {
			x.n.Tick(now)
			x.m.tick(now)
		})
	case w.noise.below(4) == 0:
		w.call(at, w.now, func(x *one) {
			x.n.Crash()
			x.m.crash()
		})
		if w.noise.below(2) == 0 {
			w.begin(at, w.all[at].m.inc+1)
		}
	}
	if len(w.bag) > 60 {
		w.bag = w.bag[20:]
	}
}

// TestP206Rows: long rows of calls of any kind, on switches of many setups.
func TestP206Rows(t *testing.T) {
	seen, whys, taken := map[int]int{}, map[int]int{}, map[int]int{}
	for seed := range 200 {
		w := &world{t: t, noise: noise(20261118 + seed), seed: seed, epoch: 1, seen: seen, whys: whys, taken: taken}
		for range 9 {
			w.noise.next()
		}
		w.s = w.noise.setup()
		for at := 1; at <= switches; at++ {
			w.begin(at, 1+w.noise.below(3))
		}
		for range 1500 {
			w.step()
		}
	}
	for _, kind := range []int{api.NoteEmit, api.NoteDrop, api.NoteRedirect, api.NoteLearn, api.NoteEvict, api.NoteAge, api.NoteStale, api.NoteUse, api.NoteFull} {
		if seen[kind] < 150 {
			t.Error("too few notes of a kind:", kind, seen[kind])
		}
	}
	for _, why := range []int{api.WhyLease, api.WhyFull, api.WhyLate, api.WhyCrash, api.WhyNone} {
		if whys[why] < 150 {
			t.Error("too few drops for a reason:", why, whys[why])
		}
	}
	for _, kind := range []int{api.MsgPart, api.MsgMod, api.MsgLead, api.MsgRedirect, api.MsgInstall} {
		if taken[kind] < 300 {
			t.Error("too few messages of a kind:", kind, taken[kind])
		}
	}
	if taken[api.MsgAck] > 0 || taken[api.MsgBeat] > 0 {
		t.Error("an ack, or a beat, wasn't stale:", taken)
	}
}

// TestP206AllBytes: short data of any bytes never does more than to be stale, and long data neither.
func TestP206AllBytes(t *testing.T) {
	n := beside(t)
	noise := noise(5)
	right := []string{data(t, part(5, 0, 2, front("0"), 2, 3)), data(t, lead(9, 5, 3)), data(t, ask(1, 1, 5, some("1"))), data(t, install(1, 3, 4, front("0")))}
	for range 3000 {
		b := []byte(right[noise.below(len(right))])
		switch noise.below(3) {
		case 0:
			b = b[:noise.below(len(b))]
		case 1:
			b = append(b, byte(noise.below(256)))
		default:
			b[noise.below(2)] ^= byte(1 + noise.below(255))
		}
		if _, e := msg.Decode(b); e == api.OK {
			continue
		}
		n.Take(noise.below(7), string(b), noise.below(20)-9)
		wantNotes(t, n, stale())
		wantLetters(t, n)
	}
	wantStale(t, n, 0, string(make([]byte, 1<<20)), 0)
}

// TestP206Once: an answer, the next answer, a tick and a crash: only the first of them has the injection.
func TestP206Once(t *testing.T) {
	ways := []func(n *Node){
		func(n *Node) { take(t, n, 2, install(1, 2, 9, front("0")), 5) },
		func(n *Node) { take(t, n, 3, install(1, 1, 8, front("00")), 5) },
		func(n *Node) { n.Tick(5); n.Tick(10) },
		func(n *Node) { n.Tick(5); n.Tick(10); n.Tick(15) },
		func(n *Node) { n.Crash() },
		func(n *Node) { n.Tick(math.MaxInt); n.Tick(math.MaxInt) },
	}
	for i, first := range ways {
		for k, second := range ways {
			n := ready(t, with(func(s *api.Setup) { s.Lease = 200 }), 0)
			n.Inject(5, some("00"), 0)
			first(n)
			second(n)
			n.Tick(15)
			n.Crash()
			over, sent := 0, 0
			for _, x := range n.Notes() {
				switch x.Kind {
				case api.NoteEmit, api.NoteDrop:
					over++
				case api.NoteRedirect:
					sent++
				}
			}
			if over != 1 || sent < 1 || sent > 3 {
				t.Error(i, k, "over:", over, "redirected:", sent)
			}
		}
	}
}
