package ctl

import (
	"fmt"
	"math"
	"slices"
	"strings"
	"testing"

	"milepost/api"
	"milepost/msg"
	"milepost/plan"
)

// life is the one in which most tests' switches are.
const life = 4

// setup is what most tests use: leads at even times, which hold for 7 ticks; who isn't heard for 6 is out; 4 items at a time; room for 4 rules and 2 leaves an epoch.
func setup() api.Setup {
	return api.Setup{Switches: 3, Authorities: 2, Cache: 2, Auth: 8, Part: 4, Grain: 1, Window: 4, Queue: 64, Wait: 2, Tries: 1, Time: 2, Beat: 2, Lease: 7, Lost: 6}
}

// with is the setup, changed.
func with(change func(s *api.Setup)) api.Setup {
	s := setup()
	change(&s)
	return s
}

// six is a setup of six switches, five of them authorities.
func six() api.Setup {
	return with(func(s *api.Setup) { s.Switches, s.Authorities = 6, 5 })
}

func fresh(t *testing.T, s api.Setup) *Ctl {
	t.Helper()
	c, e := New(s)
	if c == nil || e != api.OK {
		t.Fatal("New:", s, e)
	}
	return c
}

func data(t *testing.T, m api.Msg) string {
	t.Helper()
	b, e := msg.Encode(m)
	if e != api.OK {
		t.Fatal("no message:", m, e)
	}
	return string(b)
}

func take(t *testing.T, c *Ctl, from int, m api.Msg, now int) {
	t.Helper()
	c.Take(from, data(t, m), now)
}

func ack(inc int, epoch int, at int) api.Msg {
	return api.Msg{Kind: api.MsgAck, Inc: inc, Epoch: epoch, At: at}
}

// alive is a beat that says nothing else.
func alive(inc int) api.Msg {
	return api.Msg{Kind: api.MsgBeat, Inc: inc}
}

func uses(inc int, use int) api.Msg {
	return api.Msg{Kind: api.MsgBeat, Inc: inc, Use: use}
}

func loaded(inc int, load int) api.Msg {
	return api.Msg{Kind: api.MsgBeat, Inc: inc, Load: load}
}

// beats lets some switches be heard.
func beats(t *testing.T, c *Ctl, now int, who ...int) {
	t.Helper()
	for _, n := range who {
		take(t, c, n, alive(life), now)
	}
}

// acks lets some switches have all items of the prepared epoch.
func acks(t *testing.T, c *Ctl, who ...int) {
	t.Helper()
	x, ok := c.Prepared()
	if !ok {
		t.Fatal("nothing is prepared")
	}
	for _, n := range who {
		take(t, c, n, ack(life, x.Number, len(plan.Items(x.Leaves, n))), 0)
	}
}

func everyone(c *Ctl) []int {
	var out []int
	for n := range c.setup.Switches {
		out = append(out, n+1)
	}
	return out
}

func accepts(t *testing.T, c *Ctl, text string, now int) {
	t.Helper()
	if e := c.Policy(text, now); e != api.OK {
		t.Fatalf("Policy(%q, %d): %d", text, now, e)
	}
}

// ready is a controller whose present epoch is of a text: all have it, and were heard at 0; no lead was sent. It is 1.
func ready(t *testing.T, s api.Setup, text string) *Ctl {
	t.Helper()
	c := fresh(t, s)
	beats(t, c, 0, everyone(c)...)
	accepts(t, c, text, 0)
	acks(t, c, everyone(c)...)
	c.Tick(1)
	if _, ok := c.Present(); !ok {
		t.Fatal("no present epoch:", c.Notes())
	}
	quiet(c)
	return c
}

// quiet takes what was told so far.
func quiet(c *Ctl) {
	c.Notes()
	c.Letters()
}

// ports is a policy of some ports, and the default: so many rules, and one.
func ports(many int) string {
	var b strings.Builder
	for i := 1; i <= many; i++ {
		fmt.Fprintf(&b, "1 dport %d -> port %d\n", i, i)
	}
	return b.String() + "default -> drop"
}

// halves is a policy whose table is cut into two leaves of one rule each: port 1 for the headers whose first bit is nought.
const halves = "1 src 0.0.0.0/1 -> port 1\ndefault -> port 2"

func wantNotes(t *testing.T, c *Ctl, want ...api.Note) {
	t.Helper()
	if got := c.Notes(); !slices.Equal(got, want) {
		t.Errorf("notes: %+v, want %+v", got, want)
	}
}

// wantSent holds what was sent against messages to switches.
func wantSent(t *testing.T, c *Ctl, want ...posted) {
	t.Helper()
	got := c.Letters()
	for i, p := range want {
		if i < len(got) && got[i] != (api.Letter{To: p.to, Data: data(t, p.m)}) {
			m, _ := msg.Decode([]byte(got[i].Data))
			t.Errorf("letter %d: from %d to %d %+v, want to %d %+v", i, got[i].From, got[i].To, m, p.to, p.m)
		}
	}
	if len(got) != len(want) {
		t.Errorf("%d letters, want %d", len(got), len(want))
	}
}

func refused(e api.Errno, place int) api.Note {
	return api.Note{Kind: api.NoteRefuse, Why: int(e), Place: place}
}

func accepted(index int) api.Note {
	return api.Note{Kind: api.NoteAccept, Index: index}
}

func planned(epoch int, index int) api.Note {
	return api.Note{Kind: api.NotePlan, Epoch: epoch, Index: index}
}

func turned(epoch int, index int) api.Note {
	return api.Note{Kind: api.NoteTurn, Epoch: epoch, Index: index}
}

func committed(index int) api.Note {
	return api.Note{Kind: api.NoteCommit, Index: index}
}

func done(epoch int, index int) api.Note {
	return api.Note{Kind: api.NoteDone, Epoch: epoch, Index: index}
}

func stale() api.Note {
	return api.Note{Kind: api.NoteStale}
}

// pairsOf are the holders of an epoch's leaves.
func pairsOf(x api.Epoch) []api.Pair {
	var out []api.Pair
	for _, l := range x.Leaves {
		out = append(out, api.Pair{One: l.One, Two: l.Two})
	}
	return out
}

// wantPrepared holds what is prepared against a number, a policy's number and holders.
func wantPrepared(t *testing.T, c *Ctl, number int, index int, pairs ...api.Pair) {
	t.Helper()
	x, ok := c.Prepared()
	if !ok || x.Number != number || x.Index != index || !slices.Equal(pairsOf(x), pairs) || c.Turned() {
		t.Errorf("prepared: %+v, %v, turned %v, want %d, %d, %v", x, ok, c.Turned(), number, index, pairs)
	}
}

func wantNonePrepared(t *testing.T, c *Ctl) {
	t.Helper()
	if x, ok := c.Prepared(); ok || x.Number != 0 || x.Index != 0 || x.Leaves != nil || c.Turned() {
		t.Errorf("prepared: %+v, %v, turned %v", x, ok, c.Turned())
	}
}

func wantPresent(t *testing.T, c *Ctl, number int, index int) {
	t.Helper()
	x, ok := c.Present()
	if ok != (number > 0) || x.Number != number || x.Index != index || (len(x.Leaves) == 0) != (number == 0) {
		t.Errorf("present: %+v, %v, want %d, %d", x, ok, number, index)
	}
}

// shows is all that a controller shows of itself.
func shows(c *Ctl) string {
	present, ok := c.Present()
	prepared, so := c.Prepared()
	return fmt.Sprint(present, ok, prepared, so, c.Turned(), c.Accepted(), c.Weights())
}

// future is all that a controller tells in a long row of calls, by which everything that it keeps comes to light.
func future(t *testing.T, c *Ctl, now int) string {
	t.Helper()
	var b strings.Builder
	tell := func(e api.Errno) { fmt.Fprintf(&b, "%d %v %#v %s\n", e, c.Notes(), c.Letters(), shows(c)) }
	tell(api.OK)
	for i := range 40 {
		c.Tick(now + i)
		tell(api.OK)
		switch {
		case i == 9:
			for n := range c.setup.Switches {
				take(t, c, n+1, loaded(life+1, 9*n), now+i)
			}
		case i == 15 || i == 30:
			tell(c.Cut(now + i))
		case i > 20 && i%3 == 0:
			for n := range c.setup.Switches {
				take(t, c, n+1, loaded(life+1, i), now+i)
				x, _ := c.Prepared()
				take(t, c, n+1, ack(life+1, x.Number, len(plan.Items(x.Leaves, n+1))), now)
			}
		}
		tell(api.OK)
	}
	return b.String()
}

// same runs a call that must leave a controller as it is: but for notes it tells from then on what another one of the same past tells.
func same(t *testing.T, what string, make func() *Ctl, now int, call func(c *Ctl)) {
	t.Helper()
	a, b := make(), make()
	ahead := a.Letters()
	b.Letters()
	call(a)
	a.Notes()
	b.Notes()
	if got := a.Letters(); len(got) != 0 {
		t.Errorf("%s: it sends %#v behind %#v", what, got, ahead)
	}
	if got, want := future(t, a, now), future(t, b, now); got != want {
		t.Errorf("%s: it tells\n%s\nwant\n%s", what, got, want)
	}
}

func TestP221New(t *testing.T) {
	for i, change := range []func(s *api.Setup){
		func(s *api.Setup) { *s = api.Setup{} },
		func(s *api.Setup) { s.Switches = 1 },
		func(s *api.Setup) { s.Switches = 7 },
		func(s *api.Setup) { s.Authorities = 1 },
		func(s *api.Setup) { s.Authorities = 4 },
		func(s *api.Setup) { s.Cache = -1 },
		func(s *api.Setup) { s.Auth = 1 },
		func(s *api.Setup) { s.Part = 65 },
		func(s *api.Setup) { s.Idle = 1001 },
		func(s *api.Setup) { s.Hard = -1 },
		func(s *api.Setup) { s.Grain = 0 },
		func(s *api.Setup) { s.Window = 0 },
		func(s *api.Setup) { s.Wait = 65 },
		func(s *api.Setup) { s.Tries = 9 },
		func(s *api.Setup) { s.Time = 1 },
		func(s *api.Setup) { s.Beat = 0 },
		func(s *api.Setup) { s.Lease = 5 },
		func(s *api.Setup) { s.Lost = 5 },
		func(s *api.Setup) { s.Queue = 15 },
	} {
		if c, e := New(with(change)); c != nil || e != api.ErrArg {
			t.Error(i, c, e)
		}
	}
	for _, s := range []api.Setup{
		setup(), six(),
		with(func(s *api.Setup) { s.Bias = math.NaN() }),
		with(func(s *api.Setup) { s.Lease, s.Lost, s.Queue = 6, 6, 16 }),
	} {
		fresh(t, s)
	}
}

func TestP221Nothing(t *testing.T) {
	for authorities := 2; authorities <= 6; authorities++ {
		c := fresh(t, with(func(s *api.Setup) { s.Switches, s.Authorities = 6, authorities }))
		wantPresent(t, c, 0, 0)
		wantNonePrepared(t, c)
		if c.Accepted() != 0 || !slices.Equal(c.Weights(), make([]float64, authorities)) {
			t.Error(c.Accepted(), c.Weights())
		}
		// Nothing is known of any switch: none is in.
		c.Tick(0)
		c.Tick(2)
		wantSent(t, c)
		wantNotes(t, c)
	}
}

// None of the two, one, the other, both, turned or not.
func TestP221Shown(t *testing.T) {
	c := fresh(t, setup())
	beats(t, c, 0, 1, 2, 3)
	accepts(t, c, halves, 0)
	wantPresent(t, c, 0, 0)
	wantPrepared(t, c, 1, 1, api.Pair{One: 1, Two: 2}, api.Pair{One: 1, Two: 2})
	first, _ := c.Prepared()
	if want, e := plan.Make(c.prepared.table, c.setup, []int{1, 2}, nil); e != api.OK || fmt.Sprint(want) != fmt.Sprint(first.Leaves) {
		t.Error(first.Leaves, want)
	}
	acks(t, c, 1, 2, 3)
	c.Tick(2)
	wantNonePrepared(t, c)
	if x, ok := c.Present(); !ok || fmt.Sprint(x) != fmt.Sprint(first) {
		t.Error(x, first)
	}
	beats(t, c, 3, 1, 2, 3)
	accepts(t, c, ports(2), 3)
	wantPresent(t, c, 1, 1)
	wantPrepared(t, c, 2, 2, api.Pair{One: 1, Two: 2}, api.Pair{One: 1, Two: 2})
	second, _ := c.Prepared()
	acks(t, c, 1, 2, 3)
	c.Tick(3)
	wantPresent(t, c, 1, 1)
	if x, ok := c.Prepared(); !ok || fmt.Sprint(x) != fmt.Sprint(second) || !c.Turned() || c.Accepted() != 2 {
		t.Error(x, c.Turned(), c.Accepted())
	}
	if x, ok := c.Present(); !ok || fmt.Sprint(x) != fmt.Sprint(first) {
		t.Error(x, first)
	}
	for n := 1; n <= 3; n++ {
		take(t, c, n, uses(life, 2), 4)
	}
	c.Tick(5)
	wantPresent(t, c, 2, 2)
	wantNonePrepared(t, c)
}

// spoil changes all that was handed out.
func spoil(c *Ctl) {
	for _, shown := range []func() (api.Epoch, bool){c.Present, c.Prepared} {
		x, _ := shown()
		for i := range x.Leaves {
			for k := range x.Leaves[i].Rules {
				x.Leaves[i].Rules[k] = api.Rule{Order: 99}
			}
			// What an answer's list has room for behind its end is its own too.
			_ = append(x.Leaves[i].Rules[:len(x.Leaves[i].Rules):len(x.Leaves[i].Rules)], api.Rule{Order: 98})
			x.Leaves[i] = api.Leaf{One: 77}
		}
		_ = append(x.Leaves, api.Leaf{One: 78})
	}
	w := c.Weights()
	for i := range w {
		w[i] = 55
	}
	_ = append(w, 54)
}

func TestP221NewMemory(t *testing.T) {
	for _, prepared := range []bool{false, true} {
		make := func() *Ctl {
			c := ready(t, setup(), halves)
			if prepared {
				accepts(t, c, ports(3), 1)
			}
			return c
		}
		same(t, "spoilt answers", make, 2, spoil)
		c := make()
		want := shows(c)
		spoil(c)
		if got := shows(c); got != want {
			t.Error(got, want)
		}
	}
	// Two answers share nothing, and no list of one answer has another one's room.
	c := ready(t, with(func(s *api.Setup) { s.Auth, s.Part = 32, 16 }), ports(8))
	a, _ := c.Present()
	b, _ := c.Present()
	want := fmt.Sprint(b)
	for i := range a.Leaves {
		_ = append(a.Leaves[i].Rules, api.Rule{Order: 1234})
	}
	if fmt.Sprint(a) != want {
		t.Error("lists of one answer share room:", a)
	}
	for i := range a.Leaves {
		a.Leaves[i].Rules[0].Action = 77
		a.Leaves[i].Cube.Value[0] ^= 1
	}
	if fmt.Sprint(b) != want {
		t.Error("two answers share memory:", b)
	}
}

// What was handed out stays as it is, whatever comes then.
func TestP221Kept(t *testing.T) {
	c := ready(t, setup(), halves)
	c.Hint(1, 8)
	x, _ := c.Present()
	w := c.Weights()
	c.Cut(2)
	y, _ := c.Prepared()
	notes := c.Notes()
	c.Tick(2)
	letters := c.Letters()
	want := fmt.Sprint(x, w, y, notes, letters)
	future(t, c, 3)
	if got := fmt.Sprint(x, w, y, notes, letters); got != want {
		t.Error(got, want)
	}
}

func TestP226Since(t *testing.T) {
	c := fresh(t, setup())
	beats(t, c, 0, 1, 2, 3)
	accepts(t, c, "default -> port 7", 0)
	c.Take(1, "x", 0)
	wantNotes(t, c, accepted(1), planned(1, 1), stale())
	wantNotes(t, c)
	wantSent(t, c)
	c.Tick(1)
	c.Tick(3)
	// Both ticks' letters, in order; each from 0.
	all := c.Letters()
	if len(all) != 10 || !slices.Equal(all[:5], all[5:]) {
		t.Fatal(all)
	}
	var to []int
	for _, l := range all[:5] {
		to = append(to, l.To)
		if l.From != 0 {
			t.Error(l)
		}
	}
	if !slices.Equal(to, []int{1, 1, 2, 2, 3}) {
		t.Error(to)
	}
	wantSent(t, c)
	wantNotes(t, c)
	c.Tick(5)
	if got := c.Letters(); !slices.Equal(got, all[:5]) {
		t.Error(got)
	}
	// To ask for the ones takes nothing of the others.
	c.Take(9, "", 0)
	c.Tick(5)
	c.Letters()
	wantNotes(t, c, stale())
	c.Tick(5)
	c.Notes()
	if got := c.Letters(); len(got) != 5 {
		t.Error(got)
	}
}

func TestNil(t *testing.T) {
	var c *Ctl
	if e := c.Policy("default -> drop", 0); e != api.ErrNil {
		t.Error(e)
	}
	if e := c.Policy("x", -1); e != api.ErrNil {
		t.Error(e)
	}
	if e := c.Cut(0); e != api.ErrNil {
		t.Error(e)
	}
	if e := c.Hint(0, 1); e != api.ErrNil {
		t.Error(e)
	}
	if e := c.Hint(1, 1); e != api.ErrNil {
		t.Error(e)
	}
	for _, now := range []int{math.MinInt, 0, math.MaxInt} {
		c.Tick(now)
		c.Take(1, "x", now)
		take(t, c, 1, alive(1), now)
	}
	wantNotes(t, c)
	wantSent(t, c)
	wantPresent(t, c, 0, 0)
	wantNonePrepared(t, c)
	if c.Accepted() != 0 || len(c.Weights()) != 0 {
		t.Error(c.Accepted(), c.Weights())
	}
}

func TestExample(t *testing.T) {
	c := fresh(t, setup())
	accepts(t, c, "default -> drop", 0)
	wantPresent(t, c, 0, 0)
	wantPrepared(t, c, 1, 1, api.Pair{One: 1, Two: 2})
	c.Tick(0)
	wantSent(t, c)
	beats(t, c, 0, 1, 2, 3)
	c.Tick(1)
	if got := c.Letters(); len(got) != 5 {
		t.Error(got)
	}
	acks(t, c, 1, 2, 3)
	wantPresent(t, c, 0, 0)
	wantNotes(t, c, accepted(1), planned(1, 1))
	c.Tick(2)
	wantNotes(t, c, turned(1, 1), committed(1), done(1, 1))
	wantPresent(t, c, 1, 1)
	wantNonePrepared(t, c)
}
