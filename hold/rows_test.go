package hold

import (
	"math"
	"testing"

	"milepost/api"
)

// call is one of Item (four numbers) or Lead (three).
type call struct {
	lead bool
	n    [4]int
}

// run has both, the hold and the reckoning, do a call; false: they don't answer the same.
func (c call) run(h *Hold, m *model) bool {
	if c.lead {
		return h.Lead(c.n[0], c.n[1], c.n[2]) == m.lead(c.n[0], c.n[1], c.n[2])
	}
	return h.Item(c.n[0], c.n[1], c.n[2], c.n[3]) == m.item(c.n[0], c.n[1], c.n[2], c.n[3])
}

// follows is P18.5, between what a hold told ahead of a call and tells behind it.
func follows(t *testing.T, ahead told, h *Hold, epochs []int) {
	t.Helper()
	behind := tell(h)
	if behind.floor < ahead.floor || behind.top < ahead.top || behind.floor > behind.top {
		t.Errorf("floor and top: %+v behind %+v", behind, ahead)
	}
	if behind.use != 0 && !h.Full(behind.use) {
		t.Errorf("in use, but not full: %+v", behind)
	}
	if ahead.use != 0 && behind.use == 0 && (ahead.use == behind.floor || ahead.use == behind.top) {
		t.Errorf("no more in use, but not gone: %+v behind %+v", behind, ahead)
	}
	held := map[int]int{}
	for _, epoch := range epochs {
		if many, of := h.Count(epoch); many != 0 || of != 0 {
			held[epoch] = many
		}
	}
	if len(held) > 2 {
		t.Errorf("items of more than two epochs: %v, %+v", held, behind)
	}
}

// same holds all that is told against the reckoning.
func same(t *testing.T, h *Hold, m *model, epochs []int) bool {
	t.Helper()
	if got, want := tell(h), m.tell(); got != want {
		t.Errorf("%+v, want %+v", got, want)
		return false
	}
	for _, epoch := range epochs {
		many, of := h.Count(epoch)
		if x := m.items[epoch]; many != x[0] || of != x[1] || h.Full(epoch) != m.full(epoch) {
			t.Errorf("epoch %d: %d of %d, %v, want %v, %v", epoch, many, of, h.Full(epoch), x, m.full(epoch))
			return false
		}
	}
	return true
}

// smallCalls are all calls of small numbers, those that can't be too.
func smallCalls() []call {
	var out []call
	for floor := -1; floor <= 4; floor++ {
		for epoch := -1; epoch <= 4; epoch++ {
			for at := -1; at <= 2; at++ {
				for of := range 3 {
					out = append(out, call{n: [4]int{floor, epoch, at, of}})
				}
			}
			for sent := -1; sent <= 2; sent++ {
				out = append(out, call{lead: true, n: [4]int{sent, epoch, floor}})
			}
		}
	}
	return out
}

// TestAllSmall goes through all that a hold can come to by calls of small numbers, and does each of these calls there.
func TestAllSmall(t *testing.T) {
	type pair struct {
		h Hold
		m *model
	}
	var epochs []int
	for epoch := -2; epoch <= 6; epoch++ {
		epochs = append(epochs, epoch)
	}
	calls := smallCalls()
	seen := map[Hold]int{*New(1): 1}
	row := []pair{{*New(1), plain(1)}}
	for len(row) > 0 {
		at := row[0]
		row = row[1:]
		ahead := tell(&at.h)
		for _, c := range calls {
			h, m := at.h, at.m.clone()
			if !c.run(&h, m) || !same(t, &h, m, epochs) {
				t.Fatalf("behind %+v: %+v", ahead, c)
			}
			follows(t, ahead, &h, epochs)
			if seen[h] == 0 {
				seen[h] = 1
				row = append(row, pair{h, m})
			}
		}
	}
	if len(seen) < 300 {
		t.Error("too few were met:", len(seen))
	}
}

// someCall is one near what the hold has.
func someCall(n *noise, h *Hold) call {
	epoch := n.near([]int{h.Floor(), h.Top()}[n.below(2)])
	floor := n.near(h.Floor() - n.below(3))
	many, of := h.Count(epoch)
	if of == 0 || n.below(20) == 0 {
		of = 1 + n.below(3)
	}
	if n.below(3) == 0 {
		return call{lead: true, n: [4]int{n.near(said(h)), epoch, floor}}
	}
	at := many
	if n.below(3) == 0 {
		at = n.near(many)
	}
	return call{n: [4]int{floor, epoch, at, of}}
}

// TestRows holds long rows of calls against the reckoning.
func TestRows(t *testing.T) {
	n := noise(20260118)
	used, gone := 0, 0
	for row := range 300 {
		h, m := New(row), plain(row)
		for range 60 {
			ahead := tell(h)
			c := someCall(&n, h)
			epochs := []int{-1, 0, ahead.floor - 1, ahead.floor, ahead.floor + 1, ahead.top - 1, ahead.top, c.n[0], c.n[1], c.n[2], ahead.use}
			if !c.run(h, m) || !same(t, h, m, epochs) {
				t.Fatalf("behind %+v: %+v", ahead, c)
			}
			for range 4 {
				now, lease := n.near(h.Top()), n.near(0)
				if h.Live(now, lease) != m.live(now, lease) {
					t.Fatalf("Live(%d, %d) of %+v: %v", now, lease, tell(h), h.Live(now, lease))
				}
			}
			follows(t, ahead, h, append(epochs, h.Floor(), h.Top()))
			if h.Use() > 0 {
				used++
			}
			if ahead.use > 0 && h.Use() == 0 {
				gone++
			}
		}
	}
	if used < 1000 || gone < 100 {
		t.Error("too seldom in use, or done away with:", used, gone)
	}
}

// TestLiveAgainstReckoning: all numbers of any size, said at times of any size.
func TestLiveAgainstReckoning(t *testing.T) {
	times := append(numbers(), api.MaxTicks-1, api.MaxTicks/2, math.MaxInt-api.MaxTicks, api.MaxTicks-math.MaxInt)
	for _, sent := range times {
		h, m := New(1), plain(1)
		h.Item(0, 1, 0, 1)
		m.item(0, 1, 0, 1)
		if h.Lead(sent, 1, 0) != m.lead(sent, 1, 0) {
			t.Error("Lead:", sent)
		}
		for _, now := range times {
			for _, lease := range times {
				if got := h.Live(now, lease); got != m.live(now, lease) {
					t.Errorf("said at %d: Live(%d, %d): %v", sent, now, lease, got)
				}
			}
		}
	}
}

// TestP185: items of at most two epochs, a floor and a top that never fall, and what is in use is full, as epochs go on one by one.
func TestP185(t *testing.T) {
	h := New(1)
	var epochs []int
	for epoch := -1; epoch <= 45; epoch++ {
		epochs = append(epochs, epoch)
	}
	step := func(call func()) {
		t.Helper()
		ahead := tell(h)
		call()
		follows(t, ahead, h, epochs)
	}
	for epoch := 1; epoch <= 40; epoch++ {
		floor := epoch - 1
		for at := range 3 {
			step(func() { item(t, h, floor, epoch, at, 3, 1) })
			step(func() { lead(t, h, epoch, floor, floor, floor > 0) })
			wantCount(t, h, epoch, at+1, 3)
		}
		step(func() { lead(t, h, epoch, epoch, floor, true) })
		wantUse(t, h, epoch, epoch)
		for old := range epoch {
			step(func() { lead(t, h, 99, old, old, false) })
			if old > 0 && old < floor {
				step(func() { item(t, h, old, old, 0, 3, 0) })
			}
		}
		wantBounds(t, h, floor, epoch)
		wantUse(t, h, epoch, epoch)
	}
}
