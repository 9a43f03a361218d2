package hold

import (
	"math"
	"testing"

	"milepost/api"
)

// TestP183Wrong: each number below 0 changes nothing, though the others would.
func TestP183Wrong(t *testing.T) {
	for _, low := range []int{math.MinInt, math.MinInt + 1, -api.MaxTicks, -2, -1} {
		for _, use := range []int{0, 3, 6} {
			h := two(t, use)
			unchanged(t, h, func() {
				for _, other := range []int{0, 3, 6, 9, math.MaxInt} {
					lead(t, h, low, 6, other, false)
					lead(t, h, low, other, 3, false)
					lead(t, h, other, low, 6, false)
					lead(t, h, 20, low, other, false)
					lead(t, h, other, 6, low, false)
					lead(t, h, 20, other, low, false)
					lead(t, h, low, low, other, false)
				}
				lead(t, h, low, low, low, false)
			})
		}
	}
}

// TestP183Full: an epoch that isn't full is not in use, one that is is.
func TestP183Full(t *testing.T) {
	for _, floor := range []int{0, 2, 4} {
		h := New(1)
		for at := range 3 {
			unchanged(t, h, func() { lead(t, h, 5, 4, 0, false) })
			item(t, h, floor, 4, at, 3, 1)
		}
		lead(t, h, 5, 4, 0, true)
		wantUse(t, h, 4, 5)
		wantBounds(t, h, floor, 4)
	}
}

// TestP183Nowhere: epochs that are neither floor nor top, and 0, are not in use; what was stays.
func TestP183Nowhere(t *testing.T) {
	for _, use := range []int{0, 3, 6} {
		h := two(t, use)
		unchanged(t, h, func() {
			for _, epoch := range []int{0, 1, 2, 4, 5, 7, api.MaxTicks, math.MaxInt} {
				lead(t, h, 20, epoch, 3, false)
				lead(t, h, 20, epoch, 0, false)
			}
		})
	}
	h := New(1)
	unchanged(t, h, func() {
		lead(t, h, 0, 0, 0, false)
		lead(t, h, 5, 1, 0, false)
	})
}

// TestP183GreaterAndLess: a greater epoch takes the place of the one in use, a less one doesn't.
func TestP183GreaterAndLess(t *testing.T) {
	for _, sent := range []int{0, 9, 10, 11, math.MaxInt} {
		h := two(t, 3)
		lead(t, h, sent, 6, 3, true)
		wantUse(t, h, 6, sent)
		unchanged(t, h, func() {
			lead(t, h, sent, 3, 3, false)
			lead(t, h, math.MaxInt, 3, 0, false)
			lead(t, h, math.MaxInt, 0, 0, false)
		})
	}
}

// TestP183NotFullAbove: a greater epoch that isn't full leaves the one in use, and when that was said.
func TestP183NotFullAbove(t *testing.T) {
	h := New(1)
	fill(t, h, 2, 2, 1)
	item(t, h, 2, 3, 0, 2, 1)
	lead(t, h, 4, 2, 2, true)
	unchanged(t, h, func() { lead(t, h, 9, 3, 2, false) })
	wantUse(t, h, 2, 4)
}

// TestP183Sent: said again of the epoch in use the greater time counts; of another one its own.
func TestP183Sent(t *testing.T) {
	h := two(t, 3)
	for _, x := range [][2]int{{9, 10}, {0, 10}, {10, 10}, {11, 11}, {3, 11}, {api.MaxTicks, api.MaxTicks}, {12, api.MaxTicks}, {math.MaxInt, math.MaxInt}, {api.MaxTicks, math.MaxInt}} {
		lead(t, h, x[0], 3, 3, true)
		wantUse(t, h, 3, x[1])
	}
	lead(t, h, 1, 6, 3, true)
	wantUse(t, h, 6, 1)
	lead(t, h, 0, 6, 0, true)
	wantUse(t, h, 6, 1)
}

// TestP183SentBehindNone: when none is in use, what was said last of one that is gone counts for nothing.
func TestP183SentBehindNone(t *testing.T) {
	h := two(t, 6)
	lead(t, h, 50, 6, 3, true)
	fill(t, h, 3, 8, 2)
	wantUse(t, h, 0, 0)
	lead(t, h, 4, 8, 3, true)
	wantUse(t, h, 8, 4)

	h = two(t, 6)
	fill(t, h, 3, 8, 2)
	wantUse(t, h, 0, 0)
	lead(t, h, 1, 3, 3, true)
	wantUse(t, h, 3, 1)
}

// TestP183Floor: a lead's floor below the floor, the same, above it, the top, above that.
func TestP183Floor(t *testing.T) {
	both := told{inc: 7, floor: 3, top: 6, use: 6, said: 20, lowHas: 2, lowOf: 2, highHas: 3, highOf: 3}
	for _, x := range []struct {
		floor int
		ok    bool
		want  told
	}{
		{0, true, both},
		{2, true, both},
		{3, true, both},
		{4, true, told{inc: 7, floor: 4, top: 6, use: 6, said: 20, highHas: 3, highOf: 3}},
		{5, true, told{inc: 7, floor: 5, top: 6, use: 6, said: 20, highHas: 3, highOf: 3}},
		{6, true, told{inc: 7, floor: 6, top: 6, use: 6, said: 20, lowHas: 3, lowOf: 3, highHas: 3, highOf: 3}},
		{7, false, told{inc: 7, floor: 7, top: 7}},
		{math.MaxInt, false, told{inc: 7, floor: math.MaxInt, top: math.MaxInt}},
	} {
		for _, use := range []int{0, 3, 6} {
			h := two(t, use)
			lead(t, h, 20, 6, x.floor, x.ok)
			wantTold(t, h, x.want)
		}
	}
}

// TestP183FloorDoesAway: a floor may do away with the epoch in use, and with the one that is to be used.
func TestP183FloorDoesAway(t *testing.T) {
	h := two(t, 3)
	lead(t, h, 20, 3, 4, false)
	wantTold(t, h, told{inc: 7, floor: 4, top: 6, highHas: 3, highOf: 3})

	h = two(t, 3)
	lead(t, h, 20, 0, 4, false)
	wantTold(t, h, told{inc: 7, floor: 4, top: 6, highHas: 3, highOf: 3})

	h = two(t, 3)
	lead(t, h, 5, 6, 6, true)
	wantTold(t, h, told{inc: 7, floor: 6, top: 6, use: 6, said: 5, lowHas: 3, lowOf: 3, highHas: 3, highOf: 3})

	h = two(t, 3)
	lead(t, h, 20, 9, 9, false)
	wantTold(t, h, told{inc: 7, floor: 9, top: 9})
}

// TestP183NoTop: a lead's use is no epoch that is met: the top stays.
func TestP183NoTop(t *testing.T) {
	h := two(t, 3)
	unchanged(t, h, func() { lead(t, h, 20, 9, 3, false) })
	h = New(1)
	unchanged(t, h, func() { lead(t, h, 20, 9, 0, false) })
}

// TestP183UseNought: it is told false, whether an epoch is in use or none; its floor counts.
func TestP183UseNought(t *testing.T) {
	for _, use := range []int{0, 3, 6} {
		h := two(t, use)
		unchanged(t, h, func() { lead(t, h, 20, 0, 3, false) })
		lead(t, h, 20, 0, 6, false)
		wantBounds(t, h, 6, 6)
		want, when := 0, 0
		if use == 6 {
			want, when = 6, 10
		}
		wantUse(t, h, want, when)
	}
}

func live(t *testing.T, h *Hold, now int, lease int, want bool) {
	t.Helper()
	if got := h.Live(now, lease); got != want {
		t.Errorf("Live(%d, %d): %v, want %v", now, lease, got, want)
	}
}

// TestP184Lease: up to its end, just at it, and behind it.
func TestP184Lease(t *testing.T) {
	h := two(t, 3)
	for _, lease := range []int{1, 2, 3, 100, api.MaxTicks - 11} {
		live(t, h, 10, lease, true)
		live(t, h, 10+lease-1, lease, true)
		live(t, h, 10+lease, lease, false)
		live(t, h, 10+lease+1, lease, false)
	}
	live(t, h, 0, 1, true)
	live(t, h, math.MaxInt, math.MaxInt, true)
}

// TestP184LeaseNoughtAndBelow: what was said later than now is less than nothing ago.
func TestP184LeaseNoughtAndBelow(t *testing.T) {
	h := two(t, 6)
	for _, now := range []int{10, 11, 12, api.MaxTicks, math.MaxInt} {
		for _, lease := range []int{0, -1, -10, math.MinInt} {
			live(t, h, now, lease, false)
		}
	}
	live(t, h, 9, 0, true)
	live(t, h, 9, -1, false)
	live(t, h, 8, -1, true)
	live(t, h, 0, -9, true)
	live(t, h, 0, -10, false)
	live(t, h, 0, math.MinInt, false)
}

// TestP184Now: below 0 it counts as 0, above MaxTicks as that.
func TestP184Now(t *testing.T) {
	h := two(t, 3)
	for _, now := range []int{math.MinInt, math.MinInt + 1, -api.MaxTicks, -11, -1, 0} {
		live(t, h, now, -9, true)
		live(t, h, now, -10, false)
	}
	for _, now := range []int{api.MaxTicks, api.MaxTicks + 1, api.MaxNumber, math.MaxInt - 1, math.MaxInt} {
		live(t, h, now, api.MaxTicks-9, true)
		live(t, h, now, api.MaxTicks-10, false)
	}
	live(t, h, api.MaxTicks-1, api.MaxTicks-10, true)
	live(t, h, api.MaxTicks-1, api.MaxTicks-11, false)
	live(t, h, 1, -8, true)
	live(t, h, 1, -9, false)
}

// TestP184Sent: times of any size, which are not bounded by MaxTicks.
func TestP184Sent(t *testing.T) {
	for _, sent := range []int{0, 1, api.MaxTicks, api.MaxTicks + 5, math.MaxInt - 1, math.MaxInt} {
		h := New(1)
		fill(t, h, 0, 1, 1)
		lead(t, h, sent, 1, 0, true)
		for _, x := range [][2]int{{math.MinInt, 0}, {0, 0}, {1, 1}, {api.MaxTicks, api.MaxTicks}, {math.MaxInt, api.MaxTicks}} {
			gap := x[1] - sent
			live(t, h, x[0], gap, false)
			live(t, h, x[0], gap+1, true)
			live(t, h, x[0], math.MinInt, false)
			live(t, h, x[0], math.MaxInt, true)
		}
	}
}

// TestP184None: with none in use nothing is live, whatever was ahead.
func TestP184None(t *testing.T) {
	fresh := New(1)
	items := two(t, 0)
	gone := two(t, 6)
	item(t, gone, 3, 7, 0, 1, 1)
	below := two(t, 3)
	lead(t, below, 20, 0, 4, false)
	for _, h := range []*Hold{fresh, items, gone, below} {
		for _, now := range numbers() {
			for _, lease := range numbers() {
				live(t, h, now, lease, false)
			}
		}
	}
}
