package ctl

import (
	"fmt"
	"math"
	"slices"
	"strings"
	"testing"

	"milepost/api"
	"milepost/flat"
	"milepost/plan"
	"milepost/sense"
)

// broad is a policy whose table is too great.
const broad = "1 sport 1-65534 dport 1-65534 -> port 1\ndefault -> drop"

func refuses(t *testing.T, c *Ctl, text string, now int, e api.Errno, place int) {
	t.Helper()
	want, many := shows(c), c.Accepted()
	if got := c.Policy(text, now); got != e {
		t.Errorf("Policy(%q, %d): %d, want %d", text, now, got, e)
	}
	wantNotes(t, c, refused(e, place))
	wantSent(t, c)
	if got := shows(c); got != want || c.Accepted() != many {
		t.Errorf("Policy(%q, %d) changed %s to %s", text, now, want, got)
	}
}

func TestP222Faults(t *testing.T) {
	long := strings.Repeat("#", api.MaxText+1)
	for _, c := range []struct {
		text  string
		e     api.Errno
		place int
	}{
		{"default -> x", api.ErrSyntax, 11},
		{"5 dport 80 -> port", api.ErrSyntax, 18},
		{"1 src 1.2.3.256 -> drop", api.ErrRange, 12},
		{"1 dport 9-8 -> drop", api.ErrRange, 10},
		{"1 -> drop", api.ErrDefault, 9},
		{"", api.ErrDefault, 0},
		{"default -> drop\ndefault -> drop", api.ErrTwice, 16},
		{"default -> drop ?", api.ErrByte, 16},
	} {
		refuses(t, fresh(t, setup()), c.text, 0, c.e, c.place)
		refuses(t, ready(t, setup(), halves), c.text, 5, c.e, c.place)
		same(t, c.text, func() *Ctl { return ready(t, setup(), halves) }, 2, func(x *Ctl) { x.Policy(c.text, 2) })
	}
	_, e, place := sense.Read(long)
	if e != api.ErrLong {
		t.Fatal(e)
	}
	refuses(t, fresh(t, setup()), long, 0, e, place)
}

func TestP222Table(t *testing.T) {
	// The place is 0, though the text has one that Read doesn't know of.
	for _, s := range []api.Setup{setup(), with(func(s *api.Setup) { s.Auth = 2048 })} {
		c := fresh(t, s)
		refuses(t, c, broad, 0, api.ErrTable, 0)
		beats(t, c, 0, 1, 2, 3)
		refuses(t, c, broad, 0, api.ErrTable, 0)
	}
	// As many rules as may be.
	c := fresh(t, with(func(s *api.Setup) { s.Auth = 2048 }))
	var b strings.Builder
	for i := range 17 {
		fmt.Fprintf(&b, "%d dport 1-65534 sport %d -> port 1\n", 99-i, 1000+i)
	}
	text := b.String() + "1 sport 3 dport 1 -> port 2\ndefault -> drop"
	accepts(t, c, text, 0)
	if x, _ := c.Prepared(); plan.Load(x.Leaves, x.Leaves[0].One) < 1 {
		t.Error(x)
	}
	entries, _, _ := sense.Read(text)
	if table, e := flat.Compile(entries); e != api.OK || len(table) != 512 {
		t.Error(len(table), e)
	}
	refuses(t, fresh(t, with(func(s *api.Setup) { s.Auth = 2048 })), b.String()+"1 sport 3 dport 1 -> port 2\n1 sport 3 dport 2 -> port 2\ndefault -> drop", 0, api.ErrTable, 0)
}

// A table of as many rules as half a bank is accepted, whoever is in; one of more rules is refused.
func TestP222Bank(t *testing.T) {
	for _, auth := range []int{2, 3, 4, 7, 8, 9} {
		for _, in := range [][]int{nil, {3}, {1}, {2}, {1, 2}, {1, 2, 3}} {
			s := with(func(s *api.Setup) { s.Auth = auth })
			c := fresh(t, s)
			beats(t, c, 0, in...)
			refuses(t, c, ports(auth/2), 0, api.ErrBank, 0)
			accepts(t, c, ports(auth/2-1), 0)
			wantNotes(t, c, accepted(1), planned(1, 1))
			x, _ := c.Prepared()
			if !plan.Fits(x.Leaves, s) {
				t.Error("it doesn't fit:", x)
			}
			same(t, "a table without room", func() *Ctl { return ready(t, s, ports(auth/2-1)) }, 2, func(c *Ctl) { c.Policy(ports(auth/2), 2) })
		}
	}
}

// Of the authorities that are in, or, if there is none, of all.
func TestP222Holders(t *testing.T) {
	for _, c := range []struct {
		in   []int
		want []api.Pair
	}{
		{nil, []api.Pair{{One: 1, Two: 2}, {One: 3, Two: 4}}},
		{[]int{6}, []api.Pair{{One: 1, Two: 2}, {One: 3, Two: 4}}},
		{[]int{4}, []api.Pair{{One: 4}, {One: 4}}},
		{[]int{4, 6}, []api.Pair{{One: 4}, {One: 4}}},
		{[]int{5, 2}, []api.Pair{{One: 2, Two: 5}, {One: 2, Two: 5}}},
		{[]int{5, 3, 4}, []api.Pair{{One: 3, Two: 4}, {One: 5, Two: 3}}},
		{[]int{1, 2, 3, 4, 5, 6}, []api.Pair{{One: 1, Two: 2}, {One: 3, Two: 4}}},
	} {
		x := fresh(t, six())
		beats(t, x, 0, c.in...)
		accepts(t, x, halves, 0)
		wantPrepared(t, x, 1, 1, c.want...)
		wantNotes(t, x, accepted(1), planned(1, 1))
		wantSent(t, x)
	}
}

// Who is in, hangs on Lost; times have their bounds.
func TestP222Lost(t *testing.T) {
	for _, c := range []struct {
		heard, now int
		in         bool
	}{
		{0, 0, true}, {0, 5, true}, {0, 6, false}, {0, math.MaxInt, false}, {9, 14, true}, {9, 15, false}, {9, 0, true}, {9, math.MinInt, true},
		{-5, 5, true}, {-5, 6, false}, {math.MinInt, 5, true}, {math.MinInt, 6, false}, {0, -1, true},
		{api.MaxTicks, api.MaxTicks, true}, {api.MaxTicks, math.MaxInt, true}, {math.MaxInt, api.MaxTicks, true}, {math.MaxInt, math.MaxInt, true}, {math.MaxInt, 0, true},
		{api.MaxTicks - 5, math.MaxInt, true}, {api.MaxTicks - 6, api.MaxTicks, false}, {api.MaxTicks - 6, math.MaxInt, false},
	} {
		x := fresh(t, setup())
		take(t, x, 2, alive(life), c.heard)
		accepts(t, x, "default -> drop", c.now)
		want := api.Pair{One: 1, Two: 2}
		if c.in {
			want = api.Pair{One: 2}
		}
		wantPrepared(t, x, 1, 1, want)
	}
}

func TestP222Weights(t *testing.T) {
	c := fresh(t, six())
	beats(t, c, 0, 1, 2, 3, 4, 5)
	for n, w := range []float64{9, 1, math.NaN(), 2, -3} {
		c.Hint(n+1, w)
	}
	accepts(t, c, "default -> drop", 0)
	wantPrepared(t, c, 1, 1, api.Pair{One: 3, Two: 5})
	c = fresh(t, six())
	c.Hint(1, 1)
	accepts(t, c, "default -> drop", 0)
	wantPrepared(t, c, 1, 1, api.Pair{One: 2, Two: 3})
}

// An update is under way: that is told ahead of every other fault.
func TestP222Busy(t *testing.T) {
	texts := []string{"default -> drop", "x", "", broad, ports(9), halves}
	for _, text := range texts {
		c := fresh(t, setup())
		accepts(t, c, halves, 0)
		quiet(c)
		refuses(t, c, text, 0, api.ErrBusy, 0)
		c = ready(t, setup(), halves)
		if c.Cut(2) != api.OK {
			t.Error("no cut")
		}
		quiet(c)
		refuses(t, c, text, 2, api.ErrBusy, 0)
		// It is turned, but a lease isn't over.
		c = underTwo(t)
		refuses(t, c, text, 4, api.ErrBusy, 0)
		same(t, "busy", func() *Ctl { return underTwo(t) }, 4, func(c *Ctl) { c.Policy(text, 4) })
	}
}

// underTwo is a controller at 3 whose second epoch is turned: at 2 all were told to use the first one.
func underTwo(t *testing.T) *Ctl {
	t.Helper()
	c := ready(t, setup(), halves)
	c.Tick(2)
	beats(t, c, 2, 1, 2, 3)
	accepts(t, c, ports(2), 2)
	acks(t, c, 1, 2, 3)
	c.Tick(3)
	if !c.Turned() {
		t.Fatal("it isn't turned")
	}
	quiet(c)
	return c
}

// The index counts what was accepted alone; epochs are counted by themselves.
func TestP222Index(t *testing.T) {
	c := ready(t, setup(), halves)
	refuses(t, c, "x", 1, api.ErrSyntax, 0)
	refuses(t, c, ports(4), 1, api.ErrBank, 0)
	if c.Cut(1) != api.OK {
		t.Error("no cut")
	}
	wantNotes(t, c, planned(2, 1))
	refuses(t, c, halves, 1, api.ErrBusy, 0)
	acks(t, c, 1, 2, 3)
	c.Tick(1)
	wantNotes(t, c, turned(2, 1), done(2, 1))
	accepts(t, c, "default -> port 3", 1)
	wantNotes(t, c, accepted(2), planned(3, 2))
	if c.Accepted() != 2 {
		t.Error(c.Accepted())
	}
	acks(t, c, 1, 2, 3)
	c.Tick(1)
	wantNotes(t, c, turned(3, 2), committed(2), done(3, 2))
	wantPresent(t, c, 3, 2)
}

// The same text once more is the next policy.
func TestP222Again(t *testing.T) {
	c := ready(t, setup(), halves)
	accepts(t, c, halves, 1)
	wantNotes(t, c, accepted(2), planned(2, 2))
	acks(t, c, 1, 2, 3)
	c.Tick(1)
	wantNotes(t, c, turned(2, 2), committed(2), done(2, 2))
}

func TestP223Cut(t *testing.T) {
	c := fresh(t, setup())
	if e := c.Cut(0); e != api.ErrNone {
		t.Error(e)
	}
	accepts(t, c, halves, 0)
	quiet(c)
	// There is no present one, whatever is prepared.
	if e := c.Cut(0); e != api.ErrNone {
		t.Error(e)
	}
	wantNotes(t, c)
	c = ready(t, setup(), halves)
	c.Hint(1, 5)
	if e := c.Cut(1); e != api.OK {
		t.Error(e)
	}
	wantNotes(t, c, planned(2, 1))
	wantSent(t, c)
	wantPresent(t, c, 1, 1)
	wantPrepared(t, c, 2, 1, api.Pair{One: 2, Two: 1}, api.Pair{One: 2, Two: 1})
	if e := c.Cut(1); e != api.ErrBusy || c.Accepted() != 1 {
		t.Error(e)
	}
	wantNotes(t, c)
	acks(t, c, 1, 2, 3)
	c.Tick(1)
	wantNotes(t, c, turned(2, 1), done(2, 1))
	// Leaves that come out the same are prepared all the same.
	if e := c.Cut(1); e != api.OK {
		t.Error(e)
	}
	wantPrepared(t, c, 3, 1, api.Pair{One: 2, Two: 1}, api.Pair{One: 2, Two: 1})
	c = underTwo(t)
	if e := c.Cut(3); e != api.ErrBusy {
		t.Error(e)
	}
	same(t, "a cut while busy", func() *Ctl { return underTwo(t) }, 4, func(c *Ctl) { c.Cut(4) })
	same(t, "a cut of nothing", func() *Ctl { return fresh(t, setup()) }, 4, func(c *Ctl) { c.Cut(4) })
}

// Of the authorities that are in; without any it is plan's error.
func TestP223CutLost(t *testing.T) {
	for _, c := range []struct {
		heard, now int
		e          api.Errno
	}{
		{3, 5, api.OK}, {3, 6, api.OK}, {3, 8, api.OK}, {3, 9, api.ErrBank}, {3, math.MaxInt, api.ErrBank}, {3, -9, api.OK}, {math.MaxInt, math.MaxInt, api.OK}, {api.MaxTicks - 6, math.MaxInt, api.ErrBank}, {api.MaxTicks - 5, math.MaxInt, api.OK}, {math.MinInt, 6, api.ErrBank},
	} {
		x := ready(t, setup(), halves)
		take(t, x, 2, alive(life), c.heard)
		if e := x.Cut(c.now); e != c.e {
			t.Error(c, e)
		}
		if c.e != api.OK {
			wantNotes(t, x)
			wantNonePrepared(t, x)
		} else if c.now >= 6 {
			wantPrepared(t, x, 2, 1, api.Pair{One: 2}, api.Pair{One: 2})
		} else {
			wantPrepared(t, x, 2, 1, api.Pair{One: 1, Two: 2}, api.Pair{One: 1, Two: 2})
		}
	}
	same(t, "a cut for nobody", func() *Ctl { return ready(t, setup(), halves) }, 2, func(c *Ctl) { c.Cut(6) })
}

func TestP223Hint(t *testing.T) {
	c := fresh(t, six())
	for _, n := range []int{0, 6, 7, -1, math.MinInt, math.MaxInt} {
		if e := c.Hint(n, 3); e != api.ErrArg {
			t.Error(n, e)
		}
	}
	if !slices.Equal(c.Weights(), make([]float64, 5)) {
		t.Error(c.Weights())
	}
	want := make([]float64, 5)
	for _, w := range []float64{1, 0.25, 0, math.Copysign(0, -1), -7, math.NaN(), math.Inf(1), math.Inf(-1), math.MaxFloat64, math.SmallestNonzeroFloat64} {
		for n := 1; n <= 5; n++ {
			if e := c.Hint(n, w); e != api.OK {
				t.Error(n, w, e)
			}
			want[n-1] = w
			wantBits(t, c, want)
		}
	}
	wantNotes(t, c)
	wantSent(t, c)
	// Also while an update is under way.
	c = underTwo(t)
	if e := c.Hint(2, 9); e != api.OK || c.Weights()[1] != 9 {
		t.Error(e, c.Weights())
	}
	same(t, "a hint for nobody", func() *Ctl { return underTwo(t) }, 4, func(c *Ctl) { c.Hint(3, 9) })
}

// wantBits holds weights against numbers of any kind, bit by bit.
func wantBits(t *testing.T, c *Ctl, want []float64) {
	t.Helper()
	got := c.Weights()
	if !slices.EqualFunc(got, want, func(a float64, b float64) bool { return math.Float64bits(a) == math.Float64bits(b) }) {
		t.Error("weights:", got, "want", want)
	}
}
