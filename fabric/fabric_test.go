package fabric

import (
	"fmt"
	"math"
	"slices"
	"strings"
	"testing"

	"milepost/api"
	"milepost/head"
	"milepost/msg"
)

// setup is what most tests use: three switches, two of them authorities; room for 4 rules and 2 leaves an epoch.
func setup() api.Setup {
	return api.Setup{Switches: 3, Authorities: 2, Cache: 4, Auth: 8, Part: 4, Grain: 1, Window: 4, Queue: 64, Wait: 2, Tries: 1, Time: 2, Beat: 1, Lease: 3, Lost: 3}
}

// with is the setup, changed.
func with(change func(s *api.Setup)) api.Setup {
	s := setup()
	change(&s)
	return s
}

func fresh(t *testing.T, s api.Setup) *Fabric {
	t.Helper()
	f, e := New(s)
	if f == nil || e != api.OK {
		t.Fatal("New:", s, e)
	}
	return f
}

// does a step that has an answer.
func does(t *testing.T, f *Fabric, x api.Step, want api.Errno) {
	t.Helper()
	if e := f.Do(x); e != want {
		t.Fatalf("step %+v: %d, want %d", x, e, want)
	}
}

func tick() api.Step                { return api.Step{Kind: api.StepTick} }
func calm(n int) api.Step           { return api.Step{Kind: api.StepCalm, N: n} }
func crash(at int) api.Step         { return api.Step{Kind: api.StepCrash, At: at} }
func start(at int) api.Step         { return api.Step{Kind: api.StepStart, At: at} }
func recut() api.Step               { return api.Step{Kind: api.StepCut} }
func policy(text string) api.Step   { return api.Step{Kind: api.StepPolicy, Text: text} }
func deliver(from, to int) api.Step { return api.Step{Kind: api.StepDeliver, From: from, To: to} }
func lose(from, to int) api.Step    { return api.Step{Kind: api.StepLose, From: from, To: to} }
func twice(from, to int) api.Step   { return api.Step{Kind: api.StepTwice, From: from, To: to} }

func inject(at int, h api.Header) api.Step {
	return api.Step{Kind: api.StepInject, At: at, Head: h}
}

func hint(at int, weight float64) api.Step {
	return api.Step{Kind: api.StepHint, At: at, Weight: weight}
}

func junk(from, to int, text string) api.Step {
	return api.Step{Kind: api.StepJunk, From: from, To: to, Text: text}
}

// port is a header to a port.
func port(n int) api.Header {
	return head.Make(0x0a000001, 0x01020304, 9, uint16(n), 6)
}

// does80 lets headers to port 80 through, and no others.
const does80 = "5 dport 80 -> port 2\ndefault -> drop"

// halves is a policy whose table is cut into two leaves of one rule each.
const halves = "1 src 0.0.0.0/1 -> port 1\ndefault -> port 2"

// settled is a fabric that is calm under a policy, at a time that is behind its trace's.
func settled(t *testing.T, s api.Setup, text string) *Fabric {
	t.Helper()
	f := fresh(t, s)
	does(t, f, policy(text), api.OK)
	does(t, f, calm(30), api.OK)
	if p, ok := f.Present(); !ok || p.Index != 1 || len(f.Waiting(1)) != 0 {
		t.Fatal("not settled:", p, ok)
	}
	return f
}

// doing is what a step brings behind the trace.
func doing(t *testing.T, f *Fabric, x api.Step, want api.Errno) []api.Note {
	t.Helper()
	ahead := len(f.Trace())
	does(t, f, x, want)
	return f.Trace()[ahead:]
}

// wantDoing holds what a step brings behind the trace against what it should.
func wantDoing(t *testing.T, f *Fabric, x api.Step, e api.Errno, want ...api.Note) {
	t.Helper()
	if got := doing(t, f, x, e); !slices.Equal(got, want) {
		t.Errorf("step %+v: notes %+v, want %+v", x, got, want)
	}
}

// drains takes all letters from the net, the oldest first.
func drains(f *Fabric) []api.Letter {
	var out []api.Letter
	for {
		from, to, ok := f.links.Oldest()
		if !ok {
			return out
		}
		data, _ := f.links.Take(from, to, 0)
		out = append(out, api.Letter{From: from, To: to, Data: data})
	}
}

func decoded(t *testing.T, data string) api.Msg {
	t.Helper()
	m, e := msg.Decode([]byte(data))
	if e != api.OK {
		t.Fatalf("no message: %q", data)
	}
	return m
}

func encoded(t *testing.T, m api.Msg) string {
	t.Helper()
	b, e := msg.Encode(m)
	if e != api.OK {
		t.Fatal("no message:", m)
	}
	return string(b)
}

// looks is all that may be asked of a fabric.
func looks(f *Fabric) string {
	var b strings.Builder
	fmt.Fprintln(&b, f.Trace(), f.Steps(), f.Now(), f.Turned(), f.Accepted())
	p, there := f.Present()
	q, next := f.Prepared()
	fmt.Fprintln(&b, p, there, q, next)
	for n := -1; n <= api.MaxSwitches+1; n++ {
		fmt.Fprintln(&b, n, f.Status(n), f.Waiting(n))
		for bank := range 5 {
			fmt.Fprintln(&b, f.Slots(n, bank))
		}
		for to := -1; to <= api.MaxSwitches+1; to++ {
			for i := -1; i <= f.Count(n, to); i++ {
				data, e := f.Peek(n, to, i)
				fmt.Fprintf(&b, "%d %d %d %d %x %d\n", n, to, f.Count(n, to), i, data, e)
			}
		}
	}
	return b.String()
}

// TestP231Setup: a setup that may not be, in each of its numbers.
func TestP231Setup(t *testing.T) {
	right := []func(s *api.Setup){
		func(s *api.Setup) {},
		func(s *api.Setup) { s.Switches = 2 },
		func(s *api.Setup) { s.Switches, s.Authorities = 6, 6 },
		func(s *api.Setup) { s.Cache, s.Auth, s.Part, s.Queue = 0, 2, 2, 2*2+4+8 },
		func(s *api.Setup) { s.Cache, s.Auth, s.Part, s.Queue = 2048, 2048, 64, 512 },
		func(s *api.Setup) { s.Bias = math.NaN() },
		func(s *api.Setup) { s.Idle, s.Hard, s.Grain, s.Window, s.Wait, s.Queue = 1000, 1000, 512, 64, 20, 112 },
		func(s *api.Setup) { s.Tries, s.Time, s.Beat, s.Lease, s.Lost = 8, 100, 20, 200, 200 },
	}
	for i, change := range right {
		if f, e := New(with(change)); f == nil || e != api.OK {
			t.Error("right", i, e)
		}
	}
	wrong := []func(s *api.Setup){
		func(s *api.Setup) { s.Switches = 1 },
		func(s *api.Setup) { s.Switches = 7 },
		func(s *api.Setup) { s.Authorities = 1 },
		func(s *api.Setup) { s.Authorities = 4 },
		func(s *api.Setup) { s.Cache = -1 },
		func(s *api.Setup) { s.Cache = 2049 },
		func(s *api.Setup) { s.Auth = 1 },
		func(s *api.Setup) { s.Auth = 2049 },
		func(s *api.Setup) { s.Part = 1 },
		func(s *api.Setup) { s.Part = 65 },
		func(s *api.Setup) { s.Idle = -1 },
		func(s *api.Setup) { s.Idle = 1001 },
		func(s *api.Setup) { s.Hard = -1 },
		func(s *api.Setup) { s.Hard = 1001 },
		func(s *api.Setup) { s.Grain = 0 },
		func(s *api.Setup) { s.Grain = 513 },
		func(s *api.Setup) { s.Window = 0 },
		func(s *api.Setup) { s.Window, s.Queue = 65, 512 },
		func(s *api.Setup) { s.Queue = 2*2 + 4 + 7 },
		func(s *api.Setup) { s.Queue = 513 },
		func(s *api.Setup) { s.Wait = 0 },
		func(s *api.Setup) { s.Wait, s.Queue = 65, 512 },
		func(s *api.Setup) { s.Tries = 0 },
		func(s *api.Setup) { s.Tries = 9 },
		func(s *api.Setup) { s.Time = 1 },
		func(s *api.Setup) { s.Time = 101 },
		func(s *api.Setup) { s.Beat = 0 },
		func(s *api.Setup) { s.Beat, s.Lease, s.Lost = 21, 200, 200 },
		func(s *api.Setup) { s.Lease = 2 },
		func(s *api.Setup) { s.Lease = 201 },
		func(s *api.Setup) { s.Lost = 2 },
		func(s *api.Setup) { s.Lost = 201 },
		func(s *api.Setup) { *s = api.Setup{} },
	}
	for i, change := range wrong {
		if f, e := New(with(change)); f != nil || e != api.ErrArg {
			t.Error("wrong", i, e)
		}
		if n := Soon(with(change)); n != 0 {
			t.Error("wrong", i, "soon", n)
		}
	}
}

// TestP231New: a new fabric's switches are up, in their first life; nothing has happened.
func TestP231New(t *testing.T) {
	for many := 2; many <= api.MaxSwitches; many++ {
		f := fresh(t, with(func(s *api.Setup) { s.Switches = many }))
		for n := -1; n <= api.MaxSwitches+2; n++ {
			want := api.Status{}
			if n >= 1 && n <= many {
				want = api.Status{Up: true, Inc: 1}
			}
			if x := f.Status(n); x != want {
				t.Error(many, n, x)
			}
			for bank := -1; bank <= 4; bank++ {
				if x := f.Slots(n, bank); len(x) != 0 {
					t.Error(many, n, bank, x)
				}
			}
			if x := f.Waiting(n); len(x) != 0 {
				t.Error(many, n, x)
			}
			for to := -1; to <= api.MaxSwitches+2; to++ {
				if k := f.Count(n, to); k != 0 {
					t.Error(many, n, to, k)
				}
				link := n >= 0 && n <= many && to >= 0 && to <= many
				if s, e := f.Peek(n, to, 0); s != "" || link && e != api.ErrNone || !link && e != api.ErrArg {
					t.Error(many, n, to, s, e)
				}
			}
		}
		if f.Now() != 0 || f.Steps() != 0 || len(f.Trace()) != 0 || f.Accepted() != 0 || f.Turned() {
			t.Error(many, f.Now(), f.Steps(), f.Trace(), f.Accepted(), f.Turned())
		}
		if p, ok := f.Present(); ok || p.Number != 0 || p.Index != 0 || p.Leaves != nil {
			t.Error(many, p)
		}
		if p, ok := f.Prepared(); ok || p.Number != 0 || p.Index != 0 || p.Leaves != nil {
			t.Error(many, p)
		}
	}
}

// TestP231Apart: two fabrics have nothing of each other.
func TestP231Apart(t *testing.T) {
	f, g := fresh(t, setup()), fresh(t, setup())
	ahead := looks(g)
	for _, x := range []api.Step{policy(does80), calm(20), inject(3, port(80)), crash(2)} {
		does(t, f, x, api.OK)
	}
	if looks(g) != ahead {
		t.Error("the other one changed")
	}
}

// TestP233Switches: what is told of a switch that is up is the node's, at the clock's time; of one that is down its last life alone.
func TestP233Switches(t *testing.T) {
	f := settled(t, setup(), does80)
	does(t, f, inject(3, port(80)), api.OK)
	want := api.Status{Up: true, Inc: 1, Use: 1, Live: true, Top: 1, Part: 1, Wait: 1}
	want.Floor = f.Status(3).Floor
	if x := f.Status(3); x != want || x.Floor != 1 {
		t.Error(x, want)
	}
	if w := f.Waiting(3); len(w) != 1 || w[0] != (api.Asked{Seq: 1, Index: 2, Head: port(80), Sent: 1, Due: 32}) {
		t.Error(w)
	}
	if l := f.Slots(3, api.Part); len(l) != 1 || l[0].One == 0 || l[0].Bank != api.Part || l[0].Epoch != 1 {
		t.Error(l)
	}
	if l := f.Slots(1, api.Auth); len(l) != 2 || l[0].Action != 2 || l[1].Action != 0 {
		t.Error(l)
	}
	does(t, f, calm(1), api.OK)
	if l := f.Slots(3, api.Cache); len(l) != 1 || l[0].Action != 2 || f.Slots(3, 0) != nil || f.Slots(3, 4) != nil {
		t.Error(l)
	}
	if x := f.Status(3); x.Cache != 1 || x.Wait != 0 || !x.Live {
		t.Error(x)
	}
	sum := f.Status(1).Load + f.Status(2).Load
	if sum != 1 {
		t.Error("loads", sum)
	}
	// No lead comes any more: the lease ends while time goes on.
	for i := range 4 {
		if x := f.Status(3); x.Live != (i < 3) {
			t.Error(i, x)
		}
		does(t, f, tick(), api.OK)
	}
	does(t, f, crash(3), api.OK)
	if x := f.Status(3); x != (api.Status{Inc: 1}) {
		t.Error("down:", x)
	}
	for bank := range 5 {
		if l := f.Slots(3, bank); len(l) != 0 {
			t.Error("down:", l)
		}
	}
	if len(f.Waiting(3)) != 0 {
		t.Error("down:", f.Waiting(3))
	}
	does(t, f, start(3), api.OK)
	does(t, f, crash(3), api.OK)
	if x := f.Status(3); x != (api.Status{Inc: 2}) {
		t.Error("down again:", x)
	}
	for _, n := range []int{math.MinInt, -1, 0, 4, 7, math.MaxInt} {
		if f.Status(n) != (api.Status{}) || f.Slots(n, api.Part) != nil || f.Waiting(n) != nil {
			t.Error("there is no switch", n)
		}
	}
}

// TestP233Links: Count and Peek are the net's.
func TestP233Links(t *testing.T) {
	f := fresh(t, setup())
	for _, s := range []string{"a", "", "c"} {
		does(t, f, junk(3, 0, s), api.OK)
	}
	does(t, f, junk(0, 3, "d"), api.OK)
	does(t, f, junk(2, 2, "e"), api.OK)
	for _, x := range []struct {
		from, to, want int
	}{{3, 0, 3}, {0, 3, 1}, {2, 2, 1}, {0, 0, 0}, {1, 2, 0}, {4, 0, 0}, {0, 4, 0}, {-1, 0, 0}, {0, -1, 0}, {math.MaxInt, math.MinInt, 0}} {
		if n := f.Count(x.from, x.to); n != x.want {
			t.Error(x, n)
		}
	}
	for _, x := range []struct {
		from, to, i int
		want        string
		e           api.Errno
	}{{3, 0, 0, "a", 0}, {3, 0, 1, "", 0}, {3, 0, 2, "c", 0}, {3, 0, 3, "", api.ErrNone}, {3, 0, -1, "", api.ErrNone}, {0, 3, 0, "d", 0}, {2, 2, 0, "e", 0}, {1, 1, 0, "", api.ErrNone},
		{4, 0, 0, "", api.ErrArg}, {0, 4, 0, "", api.ErrArg}, {-1, 0, -1, "", api.ErrArg}, {0, -1, 9, "", api.ErrArg}, {3, 0, math.MaxInt, "", api.ErrNone}, {3, 0, math.MinInt, "", api.ErrNone}} {
		if s, e := f.Peek(x.from, x.to, x.i); s != x.want || e != x.e {
			t.Error(x, s, e)
		}
	}
}

// TestP233Epochs: Present, Prepared, Turned and Accepted are the controller's.
func TestP233Epochs(t *testing.T) {
	f := settled(t, setup(), does80)
	p, ok := f.Present()
	if !ok || p.Number != 1 || p.Index != 1 || len(p.Leaves) != 1 || len(p.Leaves[0].Rules) != 2 || f.Accepted() != 1 {
		t.Error(p, ok)
	}
	does(t, f, policy(halves), api.OK)
	q, ok := f.Prepared()
	if !ok || q.Number != 2 || q.Index != 2 || len(q.Leaves) != 2 || f.Turned() || f.Accepted() != 2 {
		t.Error(q, ok, f.Turned(), f.Accepted())
	}
	if p, ok = f.Present(); !ok || p.Number != 1 {
		t.Error(p, ok)
	}
	// All but the leads come: the epoch turns, but it isn't known to be used.
	for i := 0; !f.Turned(); i++ {
		if i > 20 {
			t.Fatal("it doesn't turn")
		}
		does(t, f, tick(), api.OK)
		for range f.links.Total() {
			from, to, _ := f.links.Oldest()
			s, _ := f.Peek(from, to, 0)
			if decoded(t, s).Kind == api.MsgLead {
				does(t, f, lose(from, to), api.OK)
			} else {
				does(t, f, deliver(from, to), api.OK)
			}
		}
	}
	if q, ok = f.Prepared(); !ok || q.Number != 2 {
		t.Error(q, ok)
	}
	does(t, f, calm(20), api.OK)
	if p, ok = f.Present(); !ok || p.Number != 2 || p.Index != 2 || f.Turned() {
		t.Error(p, ok)
	}
	if q, ok = f.Prepared(); ok || q.Number != 0 || q.Leaves != nil {
		t.Error(q, ok)
	}
}

// TestP233NewMemory: what is handed out is new memory.
func TestP233NewMemory(t *testing.T) {
	f := settled(t, setup(), halves)
	does(t, f, inject(3, port(80)), api.OK)
	does(t, f, calm(1), api.OK)
	does(t, f, policy(does80), api.OK)
	does(t, f, inject(3, port(81)), api.OK)
	does(t, f, inject(3, head.Make(0xffffffff, 2, 3, 4, 5)), api.OK)
	ahead := looks(f)
	for range 2 {
		x := f.Trace()
		for i := range x {
			x[i] = api.Note{Kind: 99}
		}
		_ = append(x[:0], api.Note{})
		_ = append(f.Trace(), api.Note{Kind: 98})
		for n := 1; n <= 3; n++ {
			w := f.Waiting(n)
			for i := range w {
				w[i] = api.Asked{}
			}
			for bank := api.Cache; bank <= api.Part; bank++ {
				l := f.Slots(n, bank)
				for i := range l {
					l[i] = api.Slot{}
				}
			}
		}
		for _, get := range []func() (api.Epoch, bool){f.Present, f.Prepared} {
			p, ok := get()
			if !ok {
				t.Fatal("no epoch")
			}
			for i := range p.Leaves {
				for j := range p.Leaves[i].Rules {
					p.Leaves[i].Rules[j] = api.Rule{}
				}
				p.Leaves[i] = api.Leaf{}
			}
		}
	}
	if looks(f) != ahead {
		t.Error("what was handed out is not new memory")
	}
	// Nor does what happens next reach what was handed out.
	trace, waiting := f.Trace(), f.Waiting(3)
	kept := fmt.Sprint(trace, waiting)
	does(t, f, calm(9), api.OK)
	if fmt.Sprint(trace, waiting) != kept {
		t.Error("what was handed out changed")
	}
}

// TestP233Asking: to ask changes nothing, and is no step.
func TestP233Asking(t *testing.T) {
	f, g := settled(t, setup(), does80), settled(t, setup(), does80)
	for _, x := range []api.Step{inject(3, port(80)), tick(), deliver(3, 1), crash(2), policy(halves), calm(9)} {
		looks(f)
		looks(f)
		if a, b := f.Do(x), g.Do(x); a != b {
			t.Error(x, a, b)
		}
	}
	if looks(f) != looks(g) {
		t.Error("who was asked did otherwise")
	}
}

// TestP233Soon: the sum of its parts, the division without rest.
func TestP233Soon(t *testing.T) {
	if n := Soon(setup()); n != 4*(3+3+4+3+8)+2*2 {
		t.Error(n)
	}
	base := Soon(setup())
	for i, x := range []struct {
		change func(s *api.Setup)
		more   int
	}{
		{func(s *api.Setup) { s.Lost++ }, 4},
		{func(s *api.Setup) { s.Lease += 2 }, 8},
		{func(s *api.Setup) { s.Beat, s.Lease, s.Lost = 2, 6, 6 }, 4 * (3 + 3 + 4)},
		{func(s *api.Setup) { s.Auth += 3 }, 0},
		{func(s *api.Setup) { s.Auth += 4 }, 4},
		{func(s *api.Setup) { s.Part += 3 }, 0},
		{func(s *api.Setup) { s.Part, s.Auth = 5, 11 }, 4},
		{func(s *api.Setup) { s.Part, s.Auth = 7, 8 }, 0},
		{func(s *api.Setup) { s.Window = 3 }, 4},
		{func(s *api.Setup) { s.Window = 5 }, -4},
		{func(s *api.Setup) { s.Window = 13 }, -12},
		{func(s *api.Setup) { s.Tries++ }, 2},
		{func(s *api.Setup) { s.Time++ }, 2},
		{func(s *api.Setup) { s.Tries, s.Time = 8, 100 }, 896},
		{func(s *api.Setup) {
			s.Switches, s.Cache, s.Idle, s.Hard, s.Grain, s.Wait, s.Queue, s.Bias = 6, 0, 1, 1, 9, 9, 99, math.Inf(1)
		}, 0},
	} {
		if n := Soon(with(x.change)); n != base+x.more {
			t.Error(i, n, base+x.more)
		}
	}
}

// TestNil: a nil fabric.
func TestNil(t *testing.T) {
	var f *Fabric
	for kind := -1; kind <= 14; kind++ {
		if e := f.Do(api.Step{Kind: kind, At: 1, N: 1}); e != api.ErrNil {
			t.Error(kind, e)
		}
	}
	if f.Trace() != nil || f.Steps() != 0 || f.Now() != 0 || f.Turned() || f.Accepted() != 0 {
		t.Error("a nil fabric has something")
	}
	for n := -1; n < 8; n++ {
		if f.Status(n) != (api.Status{}) || f.Slots(n, api.Cache) != nil || f.Waiting(n) != nil || f.Count(0, n) != 0 {
			t.Error("a nil fabric has a switch", n)
		}
		if s, e := f.Peek(0, n, 0); s != "" || e != api.ErrNil {
			t.Error(n, s, e)
		}
	}
	if p, ok := f.Present(); ok || p.Number != 0 || p.Index != 0 || p.Leaves != nil {
		t.Error(p, ok)
	}
	if p, ok := f.Prepared(); ok || p.Number != 0 || p.Index != 0 || p.Leaves != nil {
		t.Error(p, ok)
	}
}

// TestExample is the chapter's.
func TestExample(t *testing.T) {
	f := fresh(t, setup())
	does(t, f, policy("default -> port 7"), api.OK)
	does(t, f, calm(20), api.OK)
	wantDoing(t, f, inject(3, port(1)), api.OK, api.Note{Kind: api.NoteInject, At: 3, Index: 2, Head: port(1)}, api.Note{Kind: api.NoteRedirect, At: 3, Index: 2, Epoch: 1, To: 1})
	got := doing(t, f, calm(1), api.OK)
	if !slices.Contains(got, api.Note{Kind: api.NoteEmit, At: 3, Index: 2, Action: 7}) {
		t.Error(got)
	}
	wantDoing(t, f, inject(3, port(2)), api.OK, api.Note{Kind: api.NoteInject, At: 3, Index: 4, Head: port(2)}, api.Note{Kind: api.NoteEmit, At: 3, Index: 4, Action: 7})
}
