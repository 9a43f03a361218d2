package roll

import (
	"math"
	"sort"
	"testing"

	"milepost/api"
)

func fresh(t *testing.T, switches int) *Roll {
	t.Helper()
	r, e := New(switches)
	if r == nil || e != api.OK {
		t.Fatalf("New(%d): %v, %d", switches, r, e)
	}
	return r
}

// heard is when a switch was heard last, as In lets it be known: the least number i with 0 - heard not below -i; -1: it is in no life.
func heard(r *Roll, s int) int {
	if !r.In(s, 0, math.MaxInt) {
		return -1
	}
	return sort.Search(math.MaxInt, func(i int) bool { return !r.In(s, 0, -i) })
}

// led is when a switch was told last to use an epoch that is lesser than this one, as Safe lets it be known; -1: it was told none, or uses this one or a greater one; math.MaxInt: the switch isn't there.
func led(r *Roll, s int, epoch int) int {
	if r.Safe(s, epoch, 0, 1) {
		return -1
	}
	return sort.Search(math.MaxInt, func(i int) bool { return r.Safe(s, epoch, 0, -i) })
}

// told is all that is told of a switch, of some epochs.
type told struct {
	inc   int
	heard int
	use   int
	have  [9]int
	led   [9]int
}

// some are the epochs of which told speaks.
var some = [9]int{-1, 0, 1, 2, 3, 4, 5, 9, api.MaxNumber}

func tell(r *Roll, s int) told {
	x := told{inc: r.Inc(s), heard: heard(r, s), use: r.Use(s)}
	for i, epoch := range some {
		x.have[i], x.led[i] = r.Have(s, epoch), led(r, s, epoch)
	}
	return x
}

func tellAll(r *Roll) [api.MaxSwitches + 2]told {
	var out [api.MaxSwitches + 2]told
	for s := range out {
		out[s] = tell(r, s)
	}
	return out
}

// nothing is what is told of a switch of which nothing is known.
func nothing() told {
	x := told{heard: -1}
	for i := range x.led {
		x.led[i] = -1
	}
	return x
}

func wantTold(t *testing.T, r *Roll, s int, want told) {
	t.Helper()
	if got := tell(r, s); got != want {
		t.Errorf("of %d: %+v, want %+v", s, got, want)
	}
}

// unchanged runs a call that must leave all as it is.
func unchanged(t *testing.T, r *Roll, call func()) {
	t.Helper()
	ahead := tellAll(r)
	call()
	if got := tellAll(r); got != ahead {
		t.Errorf("changed: %+v, want %+v", got, ahead)
	}
}

// alone runs a call that may change what is known of one switch, of no other.
func alone(t *testing.T, r *Roll, s int, call func()) {
	t.Helper()
	ahead := tellAll(r)
	call()
	got := tellAll(r)
	ahead[s], got[s] = told{}, told{}
	if got != ahead {
		t.Errorf("others were changed: %+v, want %+v", got, ahead)
	}
}

func hear(t *testing.T, r *Roll, s int, inc int, now int, want bool) {
	t.Helper()
	if got := r.Hear(s, inc, now); got != want {
		t.Errorf("Hear(%d, %d, %d): %v", s, inc, now, got)
	}
}

func ack(t *testing.T, r *Roll, s int, inc int, epoch int, count int, want bool) {
	t.Helper()
	if got := r.Ack(s, inc, epoch, count); got != want {
		t.Errorf("Ack(%d, %d, %d, %d): %v", s, inc, epoch, count, got)
	}
}

func seen(t *testing.T, r *Roll, s int, inc int, use int, want bool) {
	t.Helper()
	if got := r.Seen(s, inc, use); got != want {
		t.Errorf("Seen(%d, %d, %d): %v", s, inc, use, got)
	}
}

func safe(t *testing.T, r *Roll, s int, epoch int, now int, lease int, want bool) {
	t.Helper()
	if got := r.Safe(s, epoch, now, lease); got != want {
		t.Errorf("Safe(%d, %d, %d, %d): %v", s, epoch, now, lease, got)
	}
}

func in(t *testing.T, r *Roll, s int, now int, lost int, want bool) {
	t.Helper()
	if got := r.In(s, now, lost); got != want {
		t.Errorf("In(%d, %d, %d): %v", s, now, lost, got)
	}
}

func have(t *testing.T, r *Roll, s int, epoch int, want int) {
	t.Helper()
	if got := r.Have(s, epoch); got != want {
		t.Errorf("Have(%d, %d): %d, want %d", s, epoch, got, want)
	}
}

func use(t *testing.T, r *Roll, s int, want int) {
	t.Helper()
	if got := r.Use(s); got != want {
		t.Errorf("Use(%d): %d, want %d", s, got, want)
	}
}

// numbers are edges of all that a call may be handed.
func numbers() []int {
	return []int{math.MinInt, math.MinInt + 1, -api.MaxNumber, -api.MaxTicks - 1, -api.MaxTicks, -2, -1, 0, 1, 2, 3, 7, api.MaxTicks - 1, api.MaxTicks, api.MaxTicks + 1, api.MaxNumber, api.MaxNumber + 1, math.MaxInt - 1, math.MaxInt}
}

// rich is a roll of three switches, of the first two of which all is known.
func rich(t *testing.T) *Roll {
	t.Helper()
	r := fresh(t, 3)
	for s := 1; s <= 2; s++ {
		inc := 3 * s
		hear(t, r, s, inc, 10*s, true)
		ack(t, r, s, inc, 1, 5*s, true)
		ack(t, r, s, inc, 2, 6*s, true)
		ack(t, r, s, inc, 4, 7*s, true)
		seen(t, r, s, inc, s, true)
		r.Led(s, 1, 11*s)
		r.Led(s, 2, 12*s)
		r.Led(s, 4, 9*s)
	}
	return r
}

func TestP211(t *testing.T) {
	for _, n := range append(numbers(), api.MaxSwitches+1, api.MaxSwitches+2) {
		if n >= 1 && n <= api.MaxSwitches {
			continue
		}
		if r, e := New(n); r != nil || e != api.ErrArg {
			t.Errorf("New(%d): %v, %d", n, r, e)
		}
	}
	for n := 1; n <= api.MaxSwitches; n++ {
		r := fresh(t, n)
		for s := -1; s <= api.MaxSwitches+1; s++ {
			want := nothing()
			for i := range want.led {
				if s < 1 || s > n {
					want.led[i] = math.MaxInt
				}
			}
			wantTold(t, r, s, want)
			hear(t, r, s, 1, 5, s >= 1 && s <= n)
		}
		for s := 1; s <= n; s++ {
			if r.Inc(s) != 1 || !r.In(s, 5, 1) {
				t.Errorf("switch %d of %d", s, n)
			}
		}
	}
}

// TestP211Apart: what is said to one roll is said to no other.
func TestP211Apart(t *testing.T) {
	a, b := fresh(t, 3), fresh(t, 3)
	ahead := tellAll(b)
	hear(t, a, 1, 1, 5, true)
	ack(t, a, 1, 1, 2, 3, true)
	seen(t, a, 1, 1, 4, true)
	a.Led(2, 3, 6)
	if tellAll(b) != ahead {
		t.Error(tellAll(b))
	}
}

func TestExample(t *testing.T) {
	r := fresh(t, 1)
	hear(t, r, 1, 1, 5, true)
	r.Led(1, 3, 6)
	safe(t, r, 1, 4, 8, 3, false)
	safe(t, r, 1, 4, 9, 3, true)
	safe(t, r, 1, 3, 8, 3, true)
	seen(t, r, 1, 1, 4, true)
	safe(t, r, 1, 4, 8, 3, true)
	hear(t, r, 1, 2, 8, true)
	use(t, r, 1, 0)
}

// nobody holds that all calls answer nothing for switches that aren't there.
func nobody(t *testing.T, r *Roll, s int) {
	t.Helper()
	for _, n := range numbers() {
		hear(t, r, s, n, n, false)
		hear(t, r, s, 1, n, false)
		for inc := range 3 {
			ack(t, r, s, inc, n, n, false)
			ack(t, r, s, inc, 1, n, false)
			seen(t, r, s, inc, n, false)
		}
		r.Led(s, n, n)
		have(t, r, s, n, 0)
		for _, m := range numbers() {
			in(t, r, s, n, m, false)
			safe(t, r, s, n, m, 0, false)
			safe(t, r, s, 0, n, m, false)
		}
	}
	use(t, r, s, 0)
	if got := r.Inc(s); got != 0 {
		t.Errorf("Inc(%d): %d", s, got)
	}
}

func TestNil(t *testing.T) {
	var none *Roll
	for s := -1; s <= api.MaxSwitches+1; s++ {
		none.Keep(s, 1)
		nobody(t, none, s)
	}
}

func TestNotThere(t *testing.T) {
	r := rich(t)
	for _, s := range append(numbers(), 4, 5, api.MaxSwitches, api.MaxSwitches+1) {
		if s < 1 || s > 3 {
			unchanged(t, r, func() { nobody(t, r, s) })
		}
	}
}

// TestZero: a roll that New didn't make answers too.
func TestZero(t *testing.T) {
	r := &Roll{}
	r.Keep(1, 2)
	nobody(t, r, 1)
}
