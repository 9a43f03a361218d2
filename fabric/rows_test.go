package fabric

import (
	"math"
	"slices"
	"testing"

	"milepost/api"
	"milepost/head"
	"milepost/msg"
)

// noise is a row of numbers without a pattern, always the same one.
type noise uint64

func seeded(seed int) *noise {
	n := noise(20261120 + 7919*seed)
	for range 9 {
		n.next()
	}
	return &n
}

func (n *noise) next() uint64 {
	*n ^= *n << 13
	*n ^= *n >> 7
	*n ^= *n << 17
	return uint64(*n)
}

func (n *noise) below(many int) int {
	return int(n.next() >> 11 % uint64(many))
}

// pick is one of some.
func pick[T any](n *noise, some ...T) T {
	return some[n.below(len(some))]
}

// setup is of small rooms and short times.
func (n *noise) setup() api.Setup {
	s := setup()
	s.Switches = 2 + n.below(5)
	s.Authorities = 2 + n.below(s.Switches-1)
	s.Cache, s.Auth, s.Part = n.below(4), 2+n.below(15), 2+n.below(9)
	s.Idle, s.Hard = pick(n, 0, 0, 1, 4), pick(n, 0, 0, 1, 9)
	s.Grain, s.Bias = 1+n.below(2), pick(n, 0, 0.5, math.NaN())
	s.Window = 1 + n.below(7)
	s.Wait, s.Tries, s.Time = 1+n.below(3), 1+n.below(2), 2+n.below(4)
	s.Queue = 2*s.Wait + s.Window + 8 + pick(n, 0, 0, 5, 40)
	s.Beat = 1 + n.below(3)
	s.Lease = 3*s.Beat + n.below(9)
	s.Lost = 3*s.Beat + n.below(9)
	return s
}

// text is a policy, mostly without faults.
func (n *noise) text() string {
	switch k := n.below(20); {
	case k == 0:
		return pick(n, "", "default -> x", "1 -> drop", "1 src 1.2.3.256 -> drop\ndefault -> drop", "1 dport 1 -> port 1\n1 dport 1 -> port 2\ndefault -> drop")
	case k == 1:
		return many(9)
	case k < 7:
		return pick(n, halves, "1 src 0.0.0.0/1 -> port 3\ndefault -> drop", "2 src 128.0.0.0/1 dport 80 -> drop\n1 src 0.0.0.0/1 -> port 4\ndefault -> port 5")
	case k < 12:
		return pick(n, does80, "9 dport 80-82 -> port 6\n3 dport 80 -> port 9\ndefault -> port 8")
	case k < 15:
		return pick(n, "default -> port 7", "default -> drop")
	}
	return many(1 + n.below(6))
}

func (n *noise) head() api.Header {
	return head.Make(pick(n, uint32(0), 1, 1<<31), 0, 0, pick(n, uint16(80), 80, 81, 82, 1), uint8(n.below(5)))
}

func (n *noise) weight() float64 {
	return pick(n, 0, 1, 2.5, 100, -1, math.NaN(), math.Inf(1), math.Inf(-1), math.Copysign(0, -1))
}

// link is one that has letters, if any has.
func (n *noise) link(f *Fabric) (int, int) {
	var from, to []int
	for a := range f.setup.Switches + 1 {
		for b := range f.setup.Switches + 1 {
			if f.Count(a, b) > 0 {
				from, to = append(from, a), append(to, b)
			}
		}
	}
	if len(from) == 0 {
		return n.below(9) - 1, n.below(9) - 1
	}
	i := n.below(len(from))
	return from[i], to[i]
}

// letter is a step with some letter.
func (n *noise) letter(f *Fabric, kind int) api.Step {
	from, to := n.link(f)
	return api.Step{Kind: kind, From: from, To: to, I: n.below(f.Count(from, to) + pick(n, 0, 0, 0, 1) + 1)}
}

// oldest is a step with the oldest letter.
func (n *noise) oldest(f *Fabric) api.Step {
	from, to, _ := f.links.Oldest()
	return deliver(from, to)
}

// fallen is a switch that is down, if one is.
func (n *noise) fallen(f *Fabric) int {
	at := 1 + n.below(f.setup.Switches)
	for i := range f.setup.Switches {
		if s := (at+i)%f.setup.Switches + 1; !f.Status(s).Up {
			return s
		}
	}
	return at
}

// bytes say something, or nothing.
func (n *noise) bytes(f *Fabric) string {
	if n.below(6) > 0 {
		return pick(n, "", "x", "\x00\x12\x04")
	}
	b, _ := msg.Encode(api.Msg{Kind: api.MsgAck, Inc: 1, Epoch: n.below(3), At: n.below(3)})
	return string(b)
}

// odd is a step with any numbers.
func (n *noise) odd(f *Fabric) api.Step {
	any := func() int {
		return pick(n, 0, 1, 2, f.setup.Switches, f.setup.Switches+1, -1, 7, math.MinInt, math.MaxInt)
	}
	x := api.Step{Kind: n.below(15) - 1, At: any(), From: any(), To: any(), I: any(), N: any(), Text: pick(n, "", "x"), Weight: n.weight()}
	if x.Kind == api.StepCalm && x.N > 9 {
		x.N = 401
	}
	return x
}

// step is any one, mostly one that may be.
func (n *noise) step(f *Fabric) api.Step {
	switch k := n.below(200); {
	case k < 76:
		return n.oldest(f)
	case k < 100:
		return n.letter(f, api.StepDeliver)
	case k < 122:
		return tick()
	case k < 150:
		return inject(1+n.below(f.setup.Switches), n.head())
	case k < 156:
		return n.letter(f, api.StepLose)
	case k < 162:
		return n.letter(f, api.StepTwice)
	case k < 164:
		return crash(1 + n.below(f.setup.Switches))
	case k < 169:
		return start(n.fallen(f))
	case k < 175:
		return policy(n.text())
	case k < 178:
		return recut()
	case k < 181:
		return hint(1+n.below(f.setup.Authorities), n.weight())
	case k < 190:
		return calm(n.below(5))
	case k < 195:
		return junk(n.below(f.setup.Switches+1), n.below(f.setup.Switches+1), n.bytes(f))
	}
	return n.odd(f)
}

// pair is a fabric beside the reckoning of the same steps.
type pair struct {
	t     *testing.T
	noise *noise
	f     *Fabric
	m     *plain
	seed  int
	found map[[2]int]int // kinds of steps with their answers
	seen  map[int]int    // kinds of notes
}

func (p *pair) fail(what string, got any, want any) {
	p.t.Helper()
	p.t.Fatalf("seed %d, step %d, at %d: %s: %+v, want %+v", p.seed, p.m.number, p.m.clock, what, got, want)
}

// step does one with both; what it brings has to be the same.
func (p *pair) step(x api.Step) {
	p.t.Helper()
	ahead := len(p.m.trace)
	e, want := p.f.Do(x), p.m.do(x)
	if e != want {
		p.fail("answer", e, want)
	}
	p.found[[2]int{min(max(x.Kind, 0), 13), int(e)}]++
	if len(p.f.trace) != len(p.m.trace) || !slices.Equal(p.f.trace[ahead:], p.m.trace[ahead:]) {
		p.fail("notes", p.f.trace[ahead:], p.m.trace[ahead:])
	}
	for _, y := range p.m.trace[ahead:] {
		p.seen[y.Kind]++
	}
	if p.f.Steps() != p.m.number || p.f.Now() != p.m.clock || p.f.Accepted() != p.m.control.Accepted() || p.f.Turned() != p.m.control.Turned() {
		p.fail("numbers", p.f.Now(), p.m.clock)
	}
}

// all is compared.
func (p *pair) all() {
	p.t.Helper()
	if got := p.f.Trace(); !slices.Equal(got, p.m.trace) {
		p.fail("trace", len(got), len(p.m.trace))
	}
	for n := -1; n <= api.MaxSwitches+1; n++ {
		if got, want := p.f.Status(n), p.m.status(n); got != want {
			p.fail("status", got, want)
		}
		if got, want := p.f.Waiting(n), p.m.up[n].Waiting(); !slices.Equal(got, want) {
			p.fail("waiting", got, want)
		}
		for bank := range 5 {
			if got, want := p.f.Slots(n, bank), p.m.up[n].Slots(bank); !slices.Equal(got, want) {
				p.fail("slots", got, want)
			}
		}
		for to := -1; to <= api.MaxSwitches+1; to++ {
			p.link(n, to)
		}
	}
	sameEpoch(p, "present", p.f.Present, p.m.control.Present)
	sameEpoch(p, "prepared", p.f.Prepared, p.m.control.Prepared)
}

func (p *pair) link(from int, to int) {
	p.t.Helper()
	if got, want := p.f.Count(from, to), p.m.count(from, to); got != want {
		p.fail("count", got, want)
	}
	for i := -1; i <= p.m.count(from, to); i++ {
		text := ""
		at, want := p.m.find(from, to, i)
		if want == api.OK {
			text = p.m.row[at].Data
		}
		if got, e := p.f.Peek(from, to, i); got != text || e != want {
			p.fail("peek", e, want)
		}
	}
}

func sameEpoch(p *pair, what string, get func() (api.Epoch, bool), wants func() (api.Epoch, bool)) {
	p.t.Helper()
	got, ok := get()
	want, there := wants()
	same := func(a api.Leaf, b api.Leaf) bool {
		return a.Cube == b.Cube && a.One == b.One && a.Two == b.Two && slices.Equal(a.Rules, b.Rules)
	}
	if ok != there || got.Number != want.Number || got.Index != want.Index || !slices.EqualFunc(got.Leaves, want.Leaves, same) {
		p.fail(what, got, want)
	}
}

// TestP23Rows holds long rows of steps against the reckoning.
func TestP23Rows(t *testing.T) {
	found, seen := map[[2]int]int{}, map[int]int{}
	for seed := range 240 {
		p := &pair{t: t, noise: seeded(seed), seed: seed, found: found, seen: seen}
		s := p.noise.setup()
		p.f, p.m = fresh(t, s), newPlain(s)
		if seed%10 == 9 {
			p.f.now = api.MaxTicks - 40
			p.m.clock = p.f.now
		}
		if seed%2 == 0 {
			p.step(policy(p.noise.text()))
			p.step(calm(20))
		}
		for i := range 400 {
			p.step(p.noise.step(p.f))
			if i%40 == 0 {
				p.all()
			}
		}
		p.all()
	}
	for _, want := range [][2]int{{1, 0}, {1, 10}, {2, 0}, {2, 1}, {3, 0}, {3, 1}, {3, 14}, {4, 0}, {4, 1}, {4, 14}, {5, 0}, {5, 1}, {5, 13}, {5, 14}, {6, 0}, {6, 1}, {6, 18}, {7, 0}, {7, 1}, {7, 17},
		{8, 0}, {8, 17}, {8, 8}, {8, 10}, {8, 11}, {8, 15}, {9, 0}, {9, 14}, {9, 17}, {10, 0}, {10, 1}, {11, 0}, {11, 1}, {11, 10}, {12, 0}, {12, 1}, {0, 1}, {13, 1}} {
		if found[want] < 4 {
			t.Error("seldom:", want, found[want])
		}
	}
	for kind := api.NoteAccept; kind <= api.NoteDone; kind++ {
		if seen[kind] < 20 {
			t.Error("seldom: notes of kind", kind, seen[kind])
		}
	}
}
