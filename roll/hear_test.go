package roll

import (
	"math"
	"testing"

	"milepost/api"
)

func TestP212Hear(t *testing.T) {
	r := fresh(t, 2)
	for _, inc := range []int{0, -1, -2, -api.MaxNumber, math.MinInt} {
		unchanged(t, r, func() { hear(t, r, 1, inc, 5, false) })
	}
	alone(t, r, 1, func() { hear(t, r, 1, 3, 5, true) })
	if r.Inc(1) != 3 || heard(r, 1) != 5 || heard(r, 2) != -1 {
		t.Error(r.Inc(1), heard(r, 1), heard(r, 2))
	}
	for _, inc := range []int{2, 1, 0, -1, -3, math.MinInt} {
		unchanged(t, r, func() { hear(t, r, 1, inc, 9, false) })
	}
	hear(t, r, 1, 3, 9, true)
	if heard(r, 1) != 9 {
		t.Error("its life once more:", heard(r, 1))
	}
	hear(t, r, 1, 4, 2, true)
	if r.Inc(1) != 4 || heard(r, 1) != 2 {
		t.Error("a life above:", r.Inc(1), heard(r, 1))
	}
	for _, inc := range []int{api.MaxNumber, api.MaxNumber + 1, math.MaxInt} {
		hear(t, r, 1, inc, 2, true)
		if r.Inc(1) != inc {
			t.Error(r.Inc(1), inc)
		}
		unchanged(t, r, func() { hear(t, r, 1, inc-1, 3, false) })
	}
}

// TestP212HeardEarlier: heard now is now, though it was heard at a later time ahead.
func TestP212HeardEarlier(t *testing.T) {
	r := fresh(t, 1)
	hear(t, r, 1, 1, 9, true)
	hear(t, r, 1, 1, 4, true)
	in(t, r, 1, 9, 5, false)
	in(t, r, 1, 8, 5, true)
}

// TestP212SameLife: its life once more leaves all but the time as it was.
func TestP212SameLife(t *testing.T) {
	r := rich(t)
	want := tell(r, 1)
	want.heard = 40
	alone(t, r, 1, func() { hear(t, r, 1, 3, 40, true) })
	wantTold(t, r, 1, want)
}

// TestP212NewLife: all that was known of that switch is forgotten, of the others nothing.
func TestP212NewLife(t *testing.T) {
	for _, inc := range []int{4, 5, api.MaxNumber, math.MaxInt} {
		r := rich(t)
		want := nothing()
		want.inc, want.heard = inc, 14
		alone(t, r, 1, func() { hear(t, r, 1, inc, 14, true) })
		wantTold(t, r, 1, want)
		safe(t, r, 1, math.MaxInt, 0, math.MaxInt, true)
		ack(t, r, 1, 3, 1, 9, false)
		wantTold(t, r, 1, want)
		ack(t, r, 1, inc, 1, 1, true)
		have(t, r, 1, 1, 1)
	}
}

// TestP212FirstLife: what a switch was told ahead of its first life is forgotten with that.
func TestP212FirstLife(t *testing.T) {
	r := fresh(t, 1)
	r.Led(1, 3, 6)
	safe(t, r, 1, 4, 6, 3, false)
	hear(t, r, 1, 1, 7, true)
	safe(t, r, 1, 4, 6, 3, true)
}

// TestP213In: a life, and now less when it was heard.
func TestP213In(t *testing.T) {
	r := fresh(t, 2)
	for _, n := range numbers() {
		in(t, r, 1, n, math.MaxInt, false)
		in(t, r, 1, 0, n, false)
	}
	hear(t, r, 1, 1, 5, true)
	for _, lost := range []int{1, 2, 3, 100, api.MaxTicks - 5} {
		in(t, r, 1, 5+lost-1, lost, true)
		in(t, r, 1, 5+lost, lost, false)
	}
	in(t, r, 1, 5, 0, false)
	in(t, r, 1, 4, 0, true)
	in(t, r, 1, 4, -1, false)
	in(t, r, 1, 3, -1, true)
	in(t, r, 1, 0, -4, true)
	in(t, r, 1, 0, -5, false)
	in(t, r, 1, 0, math.MinInt, false)
	in(t, r, 1, math.MaxInt, math.MaxInt, true)
	in(t, r, 2, 5, 9, false)
}

// TestP212Times: times below 0, at MaxTicks and above.
func TestP212Times(t *testing.T) {
	for _, now := range []int{-1, -9, -api.MaxTicks, math.MinInt, 0} {
		r := fresh(t, 1)
		hear(t, r, 1, 1, now, true)
		in(t, r, 1, 2, 3, true)
		in(t, r, 1, 3, 3, false)
		in(t, r, 1, -7, 1, true)
		in(t, r, 1, -7, 0, false)
		in(t, r, 1, math.MinInt, 0, false)
	}
	for _, now := range []int{api.MaxTicks, api.MaxTicks + 1, api.MaxNumber, math.MaxInt} {
		r := fresh(t, 1)
		hear(t, r, 1, 1, now, true)
		in(t, r, 1, api.MaxTicks, 1, true)
		in(t, r, 1, api.MaxTicks-1, 0, true)
		in(t, r, 1, api.MaxTicks-1, -1, false)
		in(t, r, 1, math.MaxInt, 1, true)
		in(t, r, 1, math.MaxInt, 0, false)
		in(t, r, 1, 0, -api.MaxTicks, false)
		in(t, r, 1, 0, 1-api.MaxTicks, true)
		in(t, r, 1, math.MinInt, 1-api.MaxTicks, true)
	}
	r := fresh(t, 1)
	hear(t, r, 1, 1, 5, true)
	in(t, r, 1, math.MaxInt, api.MaxTicks-5, false)
	in(t, r, 1, math.MaxInt, api.MaxTicks-4, true)
}

func TestP212Ack(t *testing.T) {
	r := fresh(t, 2)
	unchanged(t, r, func() {
		ack(t, r, 1, 0, 1, 5, false) // its life is 0, but so is inc
		ack(t, r, 1, 1, 1, 5, false)
		ack(t, r, 1, -1, 1, 5, false)
	})
	hear(t, r, 1, 3, 5, true)
	unchanged(t, r, func() {
		for _, inc := range []int{2, 4, 0, -3, 1, math.MaxInt, math.MinInt} {
			ack(t, r, 1, inc, 1, 5, false)
		}
		ack(t, r, 2, 3, 1, 5, false)
	})
	alone(t, r, 1, func() { ack(t, r, 1, 3, 1, 5, true) })
	have(t, r, 1, 1, 5)
	unchanged(t, r, func() {
		for _, count := range []int{5, 4, 1, 0, -1, -6, math.MinInt} {
			ack(t, r, 1, 3, 1, count, true)
		}
	})
	ack(t, r, 1, 3, 1, 6, true)
	have(t, r, 1, 1, 6)
	ack(t, r, 1, 3, 2, 4, true)
	have(t, r, 1, 1, 6)
	have(t, r, 1, 2, 4)
	have(t, r, 1, 3, 0)
	have(t, r, 2, 1, 0)
}

// TestP212AckNumbers: epochs and counts of any size.
func TestP212AckNumbers(t *testing.T) {
	for _, epoch := range numbers() {
		r := fresh(t, 1)
		hear(t, r, 1, 1, 5, true)
		for _, count := range numbers() { // they rise
			ack(t, r, 1, 1, epoch, count, true)
			have(t, r, 1, epoch, max(count, 0))
			ack(t, r, 1, 1, epoch, max(count, math.MinInt+1)-1, true)
			have(t, r, 1, epoch, max(count, 0))
		}
	}
}

func TestP212Seen(t *testing.T) {
	r := fresh(t, 2)
	unchanged(t, r, func() {
		seen(t, r, 1, 0, 5, false)
		seen(t, r, 1, 1, 5, false)
		seen(t, r, 1, -1, 5, false)
	})
	hear(t, r, 1, 3, 5, true)
	unchanged(t, r, func() {
		for _, inc := range []int{2, 4, 0, -3, 1, math.MaxInt, math.MinInt} {
			seen(t, r, 1, inc, 5, false)
		}
		seen(t, r, 2, 3, 5, false)
		for _, epoch := range []int{0, -1, math.MinInt} {
			seen(t, r, 1, 3, epoch, true)
		}
	})
	alone(t, r, 1, func() { seen(t, r, 1, 3, 5, true) })
	use(t, r, 1, 5)
	unchanged(t, r, func() {
		for _, epoch := range []int{5, 4, 1, 0, -1, -6, math.MinInt} {
			seen(t, r, 1, 3, epoch, true)
		}
	})
	for _, epoch := range []int{6, api.MaxNumber, api.MaxNumber + 1, math.MaxInt} {
		seen(t, r, 1, 3, epoch, true)
		use(t, r, 1, epoch)
		safe(t, r, 1, epoch, 0, 9, true)
	}
	use(t, r, 2, 0)
}

// TestP213Unknown: what is told of a switch of which nothing is known, and of one of which just its life is.
func TestP213Unknown(t *testing.T) {
	r := fresh(t, 2)
	hear(t, r, 2, 1, 0, true)
	for s := 1; s <= 2; s++ {
		for _, n := range numbers() {
			have(t, r, s, n, 0)
			safe(t, r, s, n, n, n, true)
		}
		use(t, r, s, 0)
		if r.Inc(s) != s-1 {
			t.Error(s, r.Inc(s))
		}
	}
}
