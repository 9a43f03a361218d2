package hold

import (
	"math"
	"sort"
	"testing"

	"milepost/api"
)

// told is all that a hold tells: by its calls alone.
type told struct {
	inc     int
	floor   int
	top     int
	use     int
	said    int
	lowHas  int
	lowOf   int
	highHas int
	highOf  int
}

// said is when the epoch in use was said last, as Live lets it be known: the least number i with 0 - said not below -i.
func said(h *Hold) int {
	return sort.Search(math.MaxInt, func(i int) bool { return !h.Live(0, -i) })
}

func tell(h *Hold) told {
	x := told{inc: h.Inc(), floor: h.Floor(), top: h.Top(), use: h.Use(), said: said(h)}
	x.lowHas, x.lowOf = h.Count(x.floor)
	x.highHas, x.highOf = h.Count(x.top)
	return x
}

func wantTold(t *testing.T, h *Hold, want told) {
	t.Helper()
	if got := tell(h); got != want {
		t.Errorf("%+v, want %+v", got, want)
	}
}

// unchanged runs a call that must leave the hold as it is.
func unchanged(t *testing.T, h *Hold, call func()) {
	t.Helper()
	ahead := tell(h)
	call()
	wantTold(t, h, ahead)
}

func item(t *testing.T, h *Hold, floor int, epoch int, at int, of int, want int) {
	t.Helper()
	if got := h.Item(floor, epoch, at, of); got != want {
		t.Errorf("Item(%d, %d, %d, %d): %d, want %d", floor, epoch, at, of, got, want)
	}
}

func lead(t *testing.T, h *Hold, sent int, use int, floor int, want bool) {
	t.Helper()
	if got := h.Lead(sent, use, floor); got != want {
		t.Errorf("Lead(%d, %d, %d): %v, want %v", sent, use, floor, got, want)
	}
}

func wantUse(t *testing.T, h *Hold, use int, when int) {
	t.Helper()
	if got := h.Use(); got != use {
		t.Errorf("Use: %d, want %d", got, use)
	}
	if got := said(h); got != when {
		t.Errorf("said last at %d, want %d", got, when)
	}
}

func wantCount(t *testing.T, h *Hold, epoch int, many int, of int) {
	t.Helper()
	if n, all := h.Count(epoch); n != many || all != of {
		t.Errorf("Count(%d): %d of %d, want %d of %d", epoch, n, all, many, of)
	}
	full := many > 0 && many == of
	if got := h.Full(epoch); got != full {
		t.Errorf("Full(%d): %v, want %v", epoch, got, full)
	}
}

// wantBounds is of the floor and the top.
func wantBounds(t *testing.T, h *Hold, floor int, top int) {
	t.Helper()
	if h.Floor() != floor || h.Top() != top {
		t.Errorf("floor %d, top %d, want %d and %d", h.Floor(), h.Top(), floor, top)
	}
}

// fill gives a hold all items of an epoch, in their turn.
func fill(t *testing.T, h *Hold, floor int, epoch int, of int) {
	t.Helper()
	for at := range of {
		item(t, h, floor, epoch, at, of, 1)
	}
}

// two is a hold with the floor 3 (2 items of 2), the top 6 (3 of 3), and use (one of them, or 0) said at 10.
func two(t *testing.T, use int) *Hold {
	t.Helper()
	h := New(7)
	fill(t, h, 3, 3, 2)
	fill(t, h, 3, 6, 3)
	if use > 0 {
		lead(t, h, 10, use, 3, true)
	}
	when := 0
	if use > 0 {
		when = 10
	}
	wantTold(t, h, told{inc: 7, floor: 3, top: 6, use: use, said: when, lowHas: 2, lowOf: 2, highHas: 3, highOf: 3})
	return h
}

// numbers are some of any size.
func numbers() []int {
	return []int{math.MinInt, math.MinInt + 1, -api.MaxTicks, -2, -1, 0, 1, 2, 3, 6, api.MaxTicks, api.MaxTicks + 1, api.MaxNumber, math.MaxInt - 1, math.MaxInt}
}

func TestExample(t *testing.T) {
	h := New(1)
	item(t, h, 0, 1, 0, 2, 1)
	item(t, h, 0, 1, 0, 2, 2)
	lead(t, h, 5, 1, 0, false)
	item(t, h, 0, 1, 1, 2, 1)
	lead(t, h, 5, 1, 0, true)
	if !h.Live(7, 3) || h.Live(8, 3) {
		t.Error("Live:", h.Live(7, 3), h.Live(8, 3))
	}
	item(t, h, 0, 2, 0, 1, 1)
	item(t, h, 2, 2, 0, 1, 2)
	if h.Use() != 0 {
		t.Error("Use:", h.Use())
	}
}

func TestNilHold(t *testing.T) {
	var h *Hold
	for range 2 {
		if h.Inc() != 0 || h.Floor() != 0 || h.Top() != 0 || h.Use() != 0 {
			t.Error("nil:", h.Inc(), h.Floor(), h.Top(), h.Use())
		}
		for _, a := range numbers() {
			wantCount(t, h, a, 0, 0)
			for _, b := range numbers() {
				if h.Live(a, b) {
					t.Error("Live:", a, b)
				}
				for _, c := range numbers() {
					lead(t, h, a, b, c, false)
					for _, d := range numbers() {
						item(t, h, a, b, c, d, 0)
					}
				}
			}
		}
	}
}

// TestP181New: a hold that holds nothing, with any number.
func TestP181New(t *testing.T) {
	for _, inc := range numbers() {
		h := New(inc)
		if h == nil {
			t.Fatal("New:", inc)
		}
		wantTold(t, h, told{inc: inc})
		for _, a := range numbers() {
			wantCount(t, h, a, 0, 0)
			for _, b := range numbers() {
				if h.Live(a, b) {
					t.Error("Live:", a, b)
				}
			}
		}
	}
}

// TestP181Inc: a hold's number stays, whatever comes.
func TestP181Inc(t *testing.T) {
	h := New(-4)
	item(t, h, 5, 9, 0, 1, 1)
	lead(t, h, 1, 9, 9, true)
	item(t, h, 12, 3, 0, 1, 0)
	lead(t, h, -1, 0, 0, false)
	if h.Inc() != -4 {
		t.Error("Inc:", h.Inc())
	}
}

// TestP181Holds: two holds have nothing together.
func TestP181Holds(t *testing.T) {
	x, y := New(1), New(2)
	fill(t, x, 0, 1, 2)
	lead(t, x, 3, 1, 0, true)
	wantTold(t, y, told{inc: 2})
	item(t, y, 4, 5, 0, 3, 1)
	wantTold(t, x, told{inc: 1, top: 1, use: 1, said: 3, highHas: 2, highOf: 2})
	wantTold(t, y, told{inc: 2, floor: 4, top: 5, highHas: 1, highOf: 3})
}

// TestP181CountAndFull: of the floor, the top, epochs between both, beyond both, 0 and below.
func TestP181CountAndFull(t *testing.T) {
	h := two(t, 3)
	wantCount(t, h, 3, 2, 2)
	wantCount(t, h, 6, 3, 3)
	for _, epoch := range []int{math.MinInt, -6, -3, -1, 0, 1, 2, 4, 5, 7, 9, math.MaxInt} {
		wantCount(t, h, epoch, 0, 0)
	}
}

// TestP181CountGrows: an epoch is full with its last item, not ahead of it.
func TestP181CountGrows(t *testing.T) {
	for _, bounds := range [][2]int{{0, 4}, {2, 4}, {4, 4}} {
		h := New(1)
		for at := range 5 {
			item(t, h, bounds[0], bounds[1], at, 5, 1)
			wantCount(t, h, 4, at+1, 5)
			wantCount(t, h, 0, 0, 0)
			wantCount(t, h, 2, 0, 0)
		}
	}
}

// TestP181CountOfNone: a floor and a top that have no items yet aren't full; 0 never is, though it is both at first.
func TestP181CountOfNone(t *testing.T) {
	h := New(1)
	wantCount(t, h, 0, 0, 0)
	lead(t, h, 0, 0, 4, false)
	wantBounds(t, h, 4, 4)
	wantCount(t, h, 4, 0, 0)
	item(t, h, 4, 8, 1, 2, 0)
	wantBounds(t, h, 4, 8)
	wantCount(t, h, 4, 0, 0)
	wantCount(t, h, 8, 0, 0)
}

// TestP181Asking: what is asked changes nothing.
func TestP181Asking(t *testing.T) {
	h := two(t, 6)
	unchanged(t, h, func() {
		for _, a := range numbers() {
			h.Count(a)
			h.Full(a)
			for _, b := range numbers() {
				h.Live(a, b)
			}
		}
		h.Inc()
		h.Floor()
		h.Top()
		h.Use()
	})
}
