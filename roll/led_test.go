package roll

import (
	"math"
	"testing"

	"milepost/api"
)

func TestP212Led(t *testing.T) {
	r := fresh(t, 2)
	hear(t, r, 1, 1, 5, true)
	alone(t, r, 1, func() { r.Led(1, 3, 6) })
	want := nothing()
	want.inc, want.heard = 1, 5
	want.led = [9]int{-1, -1, -1, -1, -1, 6, 6, 6, 6}
	wantTold(t, r, 1, want)
	unchanged(t, r, func() {
		for _, now := range []int{6, 5, 1, 0, -1, math.MinInt} {
			r.Led(1, 3, now)
		}
	})
	r.Led(1, 3, 7)
	want.led = [9]int{-1, -1, -1, -1, -1, 7, 7, 7, 7}
	wantTold(t, r, 1, want)
	// Of several epochs the time of each one counts, whichever comes first.
	r.Led(1, 4, 9)
	r.Led(1, 1, 8)
	r.Led(1, 2, 3)
	want.led = [9]int{-1, -1, -1, 8, 8, 8, 9, 9, 9}
	wantTold(t, r, 1, want)
	r.Led(1, 2, 20)
	want.led = [9]int{-1, -1, -1, 8, 20, 20, 20, 20, 20}
	wantTold(t, r, 1, want)
	wantTold(t, r, 2, nothing())
}

// TestP212LedAtNought: the first time counts, though it be 0 or below.
func TestP212LedAtNought(t *testing.T) {
	for _, now := range []int{0, -1, -api.MaxTicks, math.MinInt} {
		r := fresh(t, 1)
		r.Led(1, 3, now)
		safe(t, r, 1, 4, 2, 3, false)
		safe(t, r, 1, 4, 3, 3, true)
		safe(t, r, 1, 3, 0, 3, true)
	}
}

// TestP212LedInNoLife: a lead asks for no life.
func TestP212LedInNoLife(t *testing.T) {
	r := fresh(t, 1)
	r.Led(1, 3, 6)
	safe(t, r, 1, 4, 8, 3, false)
	if r.Inc(1) != 0 || r.Use(1) != 0 || heard(r, 1) != -1 {
		t.Error(tell(r, 1))
	}
}

// TestP212LedTimes: times below 0, at MaxTicks and above.
func TestP212LedTimes(t *testing.T) {
	for _, now := range []int{api.MaxTicks, api.MaxTicks + 1, api.MaxNumber, math.MaxInt} {
		r := fresh(t, 1)
		r.Led(1, 3, now)
		safe(t, r, 1, 4, api.MaxTicks, 0, true)
		safe(t, r, 1, 4, api.MaxTicks, 1, false)
		safe(t, r, 1, 4, math.MaxInt, 0, true)
		safe(t, r, 1, 4, math.MaxInt, 1, false)
		safe(t, r, 1, 4, 0, -api.MaxTicks, true)
		safe(t, r, 1, 4, 0, 1-api.MaxTicks, false)
		safe(t, r, 1, 4, math.MinInt, -api.MaxTicks, true)
		safe(t, r, 1, 4, math.MinInt, math.MinInt, true)
		safe(t, r, 1, 4, math.MinInt, 1-api.MaxTicks, false)
	}
	r := fresh(t, 1)
	r.Led(1, 3, 5)
	safe(t, r, 1, 4, math.MaxInt, api.MaxTicks-5, true)
	safe(t, r, 1, 4, math.MaxInt, api.MaxTicks-4, false)
	safe(t, r, 1, 4, -3, -5, true)
	safe(t, r, 1, 4, -3, -4, false)
}

// TestP214Uses: it uses the epoch, a greater one, a lesser one.
func TestP214Uses(t *testing.T) {
	r := fresh(t, 1)
	hear(t, r, 1, 1, 5, true)
	for epoch := -2; epoch <= 9; epoch++ {
		r.Led(1, epoch, 6)
	}
	seen(t, r, 1, 1, 4, true)
	for epoch := -2; epoch <= 9; epoch++ {
		safe(t, r, 1, epoch, 6, 3, epoch <= 4)
	}
	safe(t, r, 1, math.MinInt, 6, 3, true)
	safe(t, r, 1, math.MaxInt, 6, 3, false)
	safe(t, r, 1, 5, 9, 3, true)
}

// TestP214Lesser: leads of the epoch itself and of greater ones don't count, of lesser ones each does.
func TestP214Lesser(t *testing.T) {
	r := fresh(t, 2)
	hear(t, r, 1, 1, 5, true)
	r.Led(1, 5, 100)
	r.Led(1, 6, 100)
	for epoch := 1; epoch <= 5; epoch++ {
		safe(t, r, 1, epoch, 100, 50, true)
	}
	safe(t, r, 1, 6, 100, 50, false)
	r.Led(1, 2, 80)
	r.Led(1, 3, 90)
	r.Led(1, 1, 85)
	for _, c := range []struct {
		epoch int
		from  int
	}{{2, 95}, {3, 95}, {4, 100}, {5, 100}, {6, 110}, {7, 110}, {math.MaxInt, 110}} {
		safe(t, r, 1, c.epoch, c.from-1, 10, false)
		safe(t, r, 1, c.epoch, c.from, 10, true)
	}
	safe(t, r, 1, 1, 80, 10, true)
	safe(t, r, 2, 7, 80, 10, true)
	// Nought and less: just now is long enough ago, then.
	safe(t, r, 1, 7, 100, 0, true)
	safe(t, r, 1, 7, 99, 0, false)
	safe(t, r, 1, 7, 99, -1, true)
	safe(t, r, 1, 7, 0, math.MinInt, true)
	safe(t, r, 1, 7, math.MaxInt, math.MaxInt, false)
}

// TestP214Epochs: epochs of any size.
func TestP214Epochs(t *testing.T) {
	for _, told := range numbers() {
		r := fresh(t, 1)
		r.Led(1, told, 6)
		for _, epoch := range append(numbers(), told) {
			safe(t, r, 1, epoch, 6, 1, epoch <= 0 || told >= epoch)
			safe(t, r, 1, epoch, 7, 1, true)
		}
	}
}

// TestP212Keep: epochs that are kept and those that aren't, of all switches; and what Keep leaves as it was.
func TestP212Keep(t *testing.T) {
	kept := func(a int, b int) func(i int, had int) int {
		return func(i int, had int) int {
			if some[i] == a || some[i] == b {
				return had
			}
			return 0
		}
	}
	pairs := [][2]int{{1, 2}, {2, 1}, {4, 4}, {1, 9}, {9, 4}, {0, 0}, {9, 9}, {-1, 2}, {api.MaxNumber, 1}, {math.MaxInt, math.MinInt}, {3, 2}, {5, 3}}
	for _, p := range pairs {
		r := rich(t)
		ahead := tellAll(r)
		r.Keep(p[0], p[1])
		for s, want := range ahead {
			for i, had := range want.have {
				want.have[i] = kept(p[0], p[1])(i, had)
			}
			wantTold(t, r, s, want)
		}
		// What is forgotten is known anew by an ack, also of less than it was.
		ack(t, r, 1, 3, 2, 1, true)
		want := 1
		if p[0] == 2 || p[1] == 2 {
			want = 6
		}
		have(t, r, 1, 2, want)
	}
}

// TestP212KeepAny: epochs of any size are kept, and forgotten.
func TestP212KeepAny(t *testing.T) {
	for _, a := range numbers() {
		for _, b := range numbers() {
			r := fresh(t, 2)
			for s := 1; s <= 2; s++ {
				hear(t, r, s, 1, 5, true)
				for _, epoch := range numbers() {
					ack(t, r, s, 1, epoch, s, true)
				}
			}
			r.Keep(a, b)
			for _, epoch := range numbers() {
				for s := 1; s <= 2; s++ {
					want := 0
					if epoch == a || epoch == b {
						want = s
					}
					have(t, r, s, epoch, want)
				}
			}
		}
	}
}

// TestNoMore: what Keep and a new life forget isn't kept anywhere.
func TestNoMore(t *testing.T) {
	r := rich(t)
	r.Keep(4, 7)
	if len(r.all[0].items) != 1 || len(r.all[1].items) != 1 {
		t.Error(r.all)
	}
	hear(t, r, 1, 4, 1, true)
	if len(r.all[0].items) != 0 || len(r.all[0].leads) != 0 {
		t.Error(r.all[0])
	}
	ack(t, r, 1, 4, 8, 0, true)
	ack(t, r, 1, 4, 9, -1, true)
	if len(r.all[0].items) != 0 {
		t.Error("no items are kept:", r.all[0].items)
	}
}
