package ctl

import (
	"math"
	"slices"
	"strconv"
	"testing"

	"milepost/api"
	"milepost/cube"
	"milepost/msg"
	"milepost/node"
	"milepost/plan"
)

// noise is a row of numbers without a pattern, always the same one.
type noise uint64

func (n *noise) next() uint64 {
	*n ^= *n << 13
	*n ^= *n >> 7
	*n ^= *n << 17
	return uint64(*n)
}

func (n *noise) below(many int) int {
	return int(n.next() >> 11 % uint64(many))
}

// near is a number of one that is mostly that, at times a little less or more, never below 0.
func (n *noise) near(x int) int {
	if n.below(4) > 0 {
		return x
	}
	return max(0, x+n.below(5)-2)
}

// far are times of any size.
func far() []int {
	return []int{math.MinInt, math.MinInt + 1, -1, 0, 1, api.MaxTicks - 1, api.MaxTicks, api.MaxTicks + 1, math.MaxInt - 1, math.MaxInt}
}

// setup is of small rooms and short times.
func (n *noise) setup() api.Setup {
	s := setup()
	s.Switches = 2 + n.below(5)
	s.Authorities = 2 + n.below(s.Switches-1)
	s.Cache, s.Auth, s.Part = n.below(4), 2+n.below(15), 2+n.below(9)
	s.Grain, s.Bias = 1+n.below(2), []float64{0, 0.5, math.NaN()}[n.below(3)]
	s.Window = 1 + n.below(7)
	s.Beat = 1 + n.below(3)
	s.Lease = 3*s.Beat + n.below(9)
	s.Lost = 3*s.Beat + n.below(9)
	return s
}

// text is a policy, mostly without faults.
func (n *noise) text() string {
	switch k := n.below(60); {
	case k == 0:
		return []string{"", "default -> x", "1 -> drop", "1 src 1.2.3.256 -> drop\ndefault -> drop"}[n.below(4)]
	case k == 1 && n.below(6) == 0:
		return broad
	case k < 20:
		return halves
	}
	return ports(n.below(6))
}

func (n *noise) weight() float64 {
	return []float64{0, 1, 2.5, 100, -1, math.NaN(), math.Inf(1), math.Inf(-1), math.Copysign(0, -1)}[n.below(9)]
}

// pair is a controller beside the reckoning of the same calls.
type pair struct {
	t     *testing.T
	noise noise
	c     *Ctl
	m     *model
	now   int
	seed  int
	step  int
	seen  map[int]int    // kinds of notes
	sent  map[int]int    // kinds of messages
	found map[string]int // what else was seen
}

func newPair(t *testing.T, seed int, like *pair) *pair {
	p := &pair{t: t, noise: noise(20261119 + 7919*seed), seed: seed, seen: like.seen, sent: like.sent, found: like.found}
	for range 9 {
		p.noise.next()
	}
	s := p.noise.setup()
	p.c, p.m = fresh(t, s), plain(s)
	return p
}

// counts is a pair that does nothing but count.
func counts() *pair {
	return &pair{seen: map[int]int{}, sent: map[int]int{}, found: map[string]int{}}
}

func (p *pair) fail(what string, got any, want any) {
	p.t.Helper()
	p.t.Fatalf("seed %d, step %d, at %d: %s: %+v, want %+v", p.seed, p.step, p.now, what, got, want)
}

// sameEpoch holds an epoch against the reckoning's.
func (p *pair) sameEpoch(what string, shown func() (api.Epoch, bool), number int) {
	p.t.Helper()
	got, ok := shown()
	want, there := p.m.shown(number)
	same := func(a api.Leaf, b api.Leaf) bool {
		return a.Cube == b.Cube && a.One == b.One && a.Two == b.Two && slices.Equal(a.Rules, b.Rules)
	}
	if ok != there || got.Number != want.Number || got.Index != want.Index || !slices.EqualFunc(got.Leaves, want.Leaves, same) {
		p.fail(what, got, want)
	}
	if ok && !plan.Fits(got.Leaves, p.m.s) {
		p.fail(what+" doesn't fit", got, p.m.s)
	}
}

// same holds all that both tell against each other, and answers what was sent.
func (p *pair) same(what string, got api.Errno, want api.Errno) []posted {
	p.t.Helper()
	if got != want {
		p.fail(what, got, want)
	}
	if notes := p.c.Notes(); !slices.Equal(notes, p.m.notes) {
		p.fail(what+": notes", notes, p.m.notes)
	}
	for _, x := range p.m.notes {
		p.seen[x.Kind]++
	}
	var letters []api.Letter
	for _, x := range p.m.letters {
		letters = append(letters, api.Letter{To: x.to, Data: data(p.t, x.m)})
		p.sent[x.m.Kind]++
	}
	if l := p.c.Letters(); !slices.Equal(l, letters) {
		p.fail(what+": letters", l, p.m.letters)
	}
	p.sameEpoch(what+": present", p.c.Present, p.m.present)
	p.sameEpoch(what+": prepared", p.c.Prepared, p.m.prepared)
	if p.c.Turned() != p.m.turned || p.c.Accepted() != p.m.accepted {
		p.fail(what, p.c.Turned(), p.m.turned)
	}
	wantBits(p.t, p.c, p.m.weights)
	if p.t.Failed() {
		p.fail(what, p.c.Weights(), p.m.weights)
	}
	sent := p.m.letters
	p.m.notes, p.m.letters = nil, nil
	return sent
}

func (p *pair) policy(text string, now int) {
	p.t.Helper()
	got, want := p.c.Policy(text, now), p.m.policy(text, now)
	p.same("policy", got, want)
	if got == api.ErrBank || got == api.ErrTable || got == api.ErrBusy {
		p.found["refused "+strconv.Itoa(int(got))]++
	}
}

func (p *pair) cut(now int) {
	p.t.Helper()
	p.same("cut", p.c.Cut(now), p.m.cut(now))
}

func (p *pair) hint(n int, w float64) {
	p.t.Helper()
	p.same("hint", p.c.Hint(n, w), p.m.hint(n, w))
}

// take: a letter comes; without a message it is bytes.
func (p *pair) take(from int, m *api.Msg, bytes string, now int) {
	p.t.Helper()
	if m != nil {
		bytes = data(p.t, *m)
	}
	p.c.Take(from, bytes, now)
	p.m.take(from, m, now)
	p.same("take", api.OK, api.OK)
}

func (p *pair) tick(now int) []posted {
	p.t.Helper()
	turned, prepared := p.m.turned, p.m.prepared
	p.c.Tick(now)
	p.m.tick(now)
	switch {
	case p.m.prepared > 0 && prepared == 0:
		p.found["present mended"]++
	case p.m.prepared > 0 && prepared > 0 && p.m.prepared != prepared:
		p.found["prepared mended"]++
	case p.m.turned && !turned:
		p.found["turned, not safe"]++
	case turned && !p.m.turned:
		p.found["safe at last"]++
	case p.m.prepared == 0 && prepared > 0:
		p.found["turned and safe"]++
	}
	return p.same("tick", api.OK, api.OK)
}

// said is a message of a switch, mostly a likely one.
func (p *pair) said(n int) *api.Msg {
	x := p.m.of[n]
	if x == nil {
		x = &heard{inc: 1, load: []int{0}}
	}
	m := api.Msg{Kind: api.MsgBeat, Inc: max(1, x.inc)}
	switch k := p.noise.below(60); {
	case k < 2:
		m.Inc++
	case k < 5:
		m.Inc--
	}
	m.Epoch = p.noise.near(len(p.m.epochs))
	if m.Epoch > 0 && m.Epoch <= len(p.m.epochs) {
		m.At = p.noise.near(len(plan.Items(p.m.epochs[m.Epoch-1].leaves, n)))
	}
	switch p.noise.below(12) {
	case 0:
		return nil
	case 1:
		return &[]api.Msg{{Kind: api.MsgPart, Inc: m.Inc, Epoch: 1, Of: 1, Cube: cube.All()}, {Kind: api.MsgMod, Inc: m.Inc, Epoch: 1, Of: 1}, {Kind: api.MsgLead, Inc: m.Inc, Use: 9}, {Kind: api.MsgRedirect, Inc: m.Inc}, {Kind: api.MsgInstall, Inc: m.Inc}}[p.noise.below(5)]
	case 2, 3, 4, 5:
		m.Kind = api.MsgAck
		return &m
	}
	m.Use = max(0, p.noise.near(p.m.present))
	if p.m.turned && p.noise.below(3) > 0 {
		m.Use = p.m.prepared
	}
	if len(x.load) > 0 {
		m.Load = p.noise.near(x.load[len(x.load)-1]) + p.noise.below(3)
	}
	return &m
}

func (p *pair) anyTime() int {
	if p.noise.below(120) == 0 {
		all := far()
		return all[p.noise.below(len(all))]
	}
	return p.now
}

func (p *pair) call() {
	p.step++
	s := p.m.s
	switch k := p.noise.below(100); {
	case k < 62:
		n := 1 + p.noise.below(s.Switches)
		if p.noise.below(40) == 0 {
			n = []int{-1, 0, s.Switches + 1, math.MaxInt}[p.noise.below(4)]
		}
		// Switches fall silent for a while, one in turn, or all.
		if quiet := p.now / 25 % (s.Switches + 3); quiet == n || quiet == s.Switches+1 {
			return
		}
		p.take(n, p.said(n), []string{"", "junk", "\x00\x12\x05"}[p.noise.below(3)], p.anyTime())
	case k < 88:
		now := p.anyTime()
		if now == p.now && p.noise.below(3) > 0 {
			p.now++
			now++
		}
		p.tick(now)
	case k < 93:
		p.policy(p.noise.text(), p.anyTime())
	case k < 96:
		p.cut(p.anyTime())
	default:
		p.hint(p.noise.below(s.Authorities+2), p.noise.weight())
	}
}

// TestP22Rows: long rows of calls of any kind, of many setups.
func TestP22Rows(t *testing.T) {
	all := counts()
	for seed := range 120 {
		p := newPair(t, seed, all)
		for range 1500 {
			p.call()
		}
	}
	for _, kind := range []int{api.NoteAccept, api.NoteRefuse, api.NoteCommit, api.NoteStale, api.NotePlan, api.NoteTurn, api.NoteDone} {
		if all.seen[kind] < 1000 {
			t.Error("too few notes of a kind:", kind, all.seen[kind])
		}
	}
	for _, kind := range []int{api.MsgPart, api.MsgMod, api.MsgLead} {
		if all.sent[kind] < 5000 {
			t.Error("too few messages of a kind:", kind, all.sent[kind])
		}
	}
	for _, what := range []string{"present mended", "prepared mended", "turned, not safe", "safe at last", "turned and safe", "refused 15", "refused 17"} {
		if all.found[what] < 100 {
			t.Error("too few:", what, all.found)
		}
	}
	if all.found["refused 16"] < 5 {
		t.Error("too few:", all.found)
	}
}

// flying is a letter on its way.
type flying struct {
	from, to int
	data     string
}

// world is a controller, beside the reckoning of it, and switches that send each other letters: these get lost, come twice, and late.
type world struct {
	*pair
	nodes []*node.Node // the switch 1 stands first; nil: it is down
	lives []int
	bag   []flying
	index int
}

func newWorld(t *testing.T, seed int, like *pair) *world {
	w := &world{pair: newPair(t, seed, like)}
	for n := 1; n <= w.m.s.Switches; n++ {
		w.nodes, w.lives = append(w.nodes, nil), append(w.lives, 0)
		w.start(n)
	}
	return w
}

func (w *world) start(n int) {
	w.lives[n-1]++
	x, e := node.New(n, w.lives[n-1], w.m.s)
	if e != api.OK {
		w.fail("start", e, n)
	}
	w.nodes[n-1] = x
}

// out takes out what a switch has noted and sent. What was accepted never finds a bank full.
func (w *world) out(n int) {
	w.t.Helper()
	x := w.nodes[n-1]
	for _, note := range x.Notes() {
		if note.Kind == api.NoteFull {
			w.fail("a bank is full", note, w.m.s)
		}
		if note.Kind == api.NoteUse {
			w.found["used"]++
		}
	}
	for _, l := range x.Letters() {
		w.bag = append(w.bag, flying{l.From, l.To, l.Data})
	}
}

// goesOn: a tick.
func (w *world) goesOn() {
	w.t.Helper()
	w.now++
	for _, x := range w.tick(w.now) {
		w.bag = append(w.bag, flying{0, x.to, data(w.t, x.m)})
	}
	for i, x := range w.nodes {
		if x != nil {
			x.Tick(w.now)
			w.out(i + 1)
		}
	}
	w.follows()
}

// comes: the letter at a place of the bag comes, and is gone, or stays there as well.
func (w *world) comes(i int, stays bool) {
	w.t.Helper()
	l := w.bag[i]
	if !stays {
		w.bag = slices.Delete(w.bag, i, i+1)
	}
	if l.to == 0 {
		m, e := msg.Decode([]byte(l.data))
		if e != api.OK {
			w.fail("no message", l, e)
		}
		w.take(l.from, &m, "", w.now)
	} else if x := w.nodes[l.to-1]; x != nil {
		x.Take(l.from, l.data, w.now)
		w.out(l.to)
	}
	w.follows()
}

// follows is P22.7: who may act uses the present epoch, or the prepared one, if that is turned.
func (w *world) follows() {
	w.t.Helper()
	present, _ := w.c.Present()
	prepared, ok := w.c.Prepared()
	if ok && prepared.Number <= present.Number {
		w.fail("numbers", prepared, present)
	}
	for i, x := range w.nodes {
		s := x.Status(w.now)
		if !s.Live {
			continue
		}
		w.found["live"]++
		if s.Use != present.Number && !(w.c.Turned() && s.Use == prepared.Number) {
			w.fail("a switch may use another one", s, present.Number)
		}
		if s.Use != present.Number {
			w.found["the next one in use"]++
		}
		if epochs := slotEpochs(w.nodes[i]); len(epochs) > 2 {
			w.fail("more than two epochs", epochs, present.Number)
		}
	}
}

// slotEpochs are the epochs of which a switch has slots.
func slotEpochs(x *node.Node) []int {
	var out []int
	for bank := 1; bank <= 3; bank++ {
		for _, s := range x.Slots(bank) {
			out = append(out, s.Epoch)
		}
	}
	slices.Sort(out)
	return slices.Compact(out)
}

func (w *world) does() {
	w.t.Helper()
	w.step++
	n := 1 + w.noise.below(len(w.nodes))
	switch k := w.noise.below(1000); {
	case k < 700:
		if len(w.bag) == 0 {
			return
		}
		i := w.noise.below(min(len(w.bag), 1+w.noise.below(30)))
		if w.noise.below(30) == 0 {
			w.bag = slices.Delete(w.bag, i, i+1)
			return
		}
		w.comes(i, w.noise.below(30) == 0)
	case k < 900:
		w.goesOn()
	case k < 950:
		if x := w.nodes[n-1]; x != nil {
			w.index++
			x.Inject(w.index, api.Header{byte(w.noise.below(256))}, w.now)
			w.out(n)
		}
	case k < 952:
		w.nodes[n-1] = nil
	case k < 960:
		if w.nodes[n-1] == nil {
			w.start(n)
		}
	case k < 980:
		w.policy(w.noise.text(), w.now)
	case k < 990:
		w.cut(w.now)
	default:
		w.hint(n, w.noise.weight())
	}
}

// calm: rounds in which all letters come, the oldest first.
func (w *world) calm(rounds int) {
	w.t.Helper()
	for range rounds {
		w.goesOn()
		for len(w.bag) > 0 {
			w.comes(0, false)
		}
	}
}

// TestP227World: whatever becomes of letters and switches, no switch may act by an epoch that is over, and in the calm all is done.
func TestP227World(t *testing.T) {
	all := counts()
	for seed := range 40 {
		w := newWorld(t, 1000+seed, all)
		for range 3 {
			for range 700 {
				w.does()
				if len(w.bag) > 200 {
					w.bag = w.bag[100:]
				}
			}
			for n, x := range w.nodes {
				if x == nil {
					w.start(n + 1)
				}
			}
			s := w.m.s
			w.calm(4 * (s.Lost + s.Lease + 4*s.Beat + (s.Auth+s.Part)/s.Window + 8))
			present, ok := w.c.Present()
			if _, busy := w.c.Prepared(); busy || ok != (w.c.Accepted() > 0) || ok && present.Index != w.c.Accepted() {
				w.fail("behind the calm", present, w.c.Accepted())
			}
			for _, x := range w.nodes {
				if got := x.Status(w.now); got.Use != present.Number || got.Live != ok {
					w.fail("behind the calm", got, present.Number)
				}
			}
		}
	}
	for _, kind := range []int{api.NoteAccept, api.NoteCommit, api.NotePlan, api.NoteTurn, api.NoteDone} {
		if all.seen[kind] < 100 {
			t.Error("too few notes of a kind:", kind, all.seen)
		}
	}
	for what, least := range map[string]int{"present mended": 100, "turned, not safe": 100, "live": 10000, "the next one in use": 1000, "used": 500} {
		if all.found[what] < least {
			t.Error("too few:", what, all.found)
		}
	}
}
