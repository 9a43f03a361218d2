package hold

import (
	"math"
	"testing"

	"milepost/api"
)

// TestP182Wrong: a number that can't be changes nothing, though the others would.
func TestP182Wrong(t *testing.T) {
	for _, low := range []int{math.MinInt, math.MinInt + 1, -api.MaxTicks, -2, -1} {
		for _, use := range []int{0, 3, 6} {
			h := two(t, use)
			unchanged(t, h, func() {
				item(t, h, low, 6, 0, 3, 0)
				item(t, h, low, 9, 0, 1, 0)
				item(t, h, 5, low, 0, 1, 0)
				item(t, h, 9, low, 0, 1, 0)
				item(t, h, 5, 9, low, 1, 0)
				item(t, h, 5, 9, low, low, 0)
				item(t, h, 5, 9, 0, low, 0)
				item(t, h, low, low, low, low, 0)
			})
		}
	}
}

func TestP182WrongEdges(t *testing.T) {
	for _, use := range []int{0, 3, 6} {
		h := two(t, use)
		unchanged(t, h, func() {
			item(t, h, 5, 0, 0, 1, 0)
			item(t, h, 0, 0, 0, 1, 0)
			for _, at := range []int{0, 1, 2, 5, api.MaxTicks, math.MaxInt} {
				item(t, h, 5, 9, at, at, 0)
				item(t, h, 5, 9, at, at-1, 0)
				item(t, h, 9, 9, at, 0, 0)
				item(t, h, 3, 6, at, at, 0)
			}
			item(t, h, 5, 9, math.MaxInt, math.MinInt, 0)
		})
	}
	h := New(1)
	unchanged(t, h, func() {
		item(t, h, 0, 0, 0, 1, 0)
		item(t, h, 0, 1, 0, 0, 0)
		item(t, h, -1, 1, 0, 1, 0)
		item(t, h, 0, 1, -1, 0, 0)
	})
}

// TestP182Turn: the next item, those that came and those that come too soon, of a floor, a top, and one that is both.
func TestP182Turn(t *testing.T) {
	const of = 6
	for _, bounds := range [][3]int{{0, 4, 4}, {2, 4, 4}, {4, 4, 4}, {4, 9, 4}} {
		floor, top, epoch := bounds[0], bounds[1], bounds[2]
		h := New(1)
		item(t, h, floor, top, 1, 2, 0)
		for has := range of + 1 {
			wantBounds(t, h, floor, top)
			unchanged(t, h, func() {
				for at := range has {
					item(t, h, floor, epoch, at, of, 2)
				}
				for at := has + 1; at < of; at++ {
					item(t, h, floor, epoch, at, of, 0)
				}
			})
			if has < of {
				item(t, h, floor, epoch, has, of, 1)
				wantCount(t, h, epoch, has+1, of)
			}
		}
		unchanged(t, h, func() { item(t, h, floor, epoch, of, of, 0) })
	}
}

// TestP182OfAnotherNumber: what an epoch has items of stays; one without items takes any.
func TestP182OfAnotherNumber(t *testing.T) {
	h := New(1)
	item(t, h, 0, 1, 1, 9, 0)
	item(t, h, 0, 1, 2, 3, 0)
	wantCount(t, h, 1, 0, 0)
	item(t, h, 0, 1, 0, 3, 1)
	item(t, h, 0, 1, 1, 3, 1)
	wantCount(t, h, 1, 2, 3)
	unchanged(t, h, func() {
		for _, of := range []int{1, 2, 4, 5, api.MaxTicks, math.MaxInt} {
			for at := range min(of, 5) {
				item(t, h, 0, 1, at, of, 0)
			}
		}
	})
	item(t, h, 0, 1, 2, 3, 1)
	unchanged(t, h, func() {
		item(t, h, 0, 1, 0, 1, 0)
		item(t, h, 0, 1, 3, 4, 0)
	})
}

// TestP182EachItsNumber: the floor and the top have numbers of items of their own.
func TestP182EachItsNumber(t *testing.T) {
	h := New(1)
	item(t, h, 1, 1, 0, 2, 1)
	item(t, h, 1, 2, 0, 3, 1)
	item(t, h, 1, 1, 1, 3, 0)
	item(t, h, 1, 2, 1, 2, 0)
	item(t, h, 1, 1, 1, 2, 1)
	item(t, h, 1, 2, 1, 3, 1)
	wantCount(t, h, 1, 2, 2)
	wantCount(t, h, 2, 2, 3)
}

// TestP182Floor: an item's floor above the floor, the same, and below it.
func TestP182Floor(t *testing.T) {
	h := two(t, 3)
	unchanged(t, h, func() {
		for floor := range 4 {
			item(t, h, floor, 3, 0, 2, 2)
			item(t, h, floor, 6, 0, 3, 2)
		}
	})
	item(t, h, 4, 6, 0, 3, 2)
	wantTold(t, h, told{inc: 7, floor: 4, top: 6, highHas: 3, highOf: 3})
	wantCount(t, h, 3, 0, 0)
	item(t, h, 4, 3, 0, 2, 0)
	wantTold(t, h, told{inc: 7, floor: 4, top: 6, highHas: 3, highOf: 3})
	fill(t, h, 4, 4, 5)
	wantTold(t, h, told{inc: 7, floor: 4, top: 6, lowHas: 5, lowOf: 5, highHas: 3, highOf: 3})
}

// TestP182FloorIsTop: the floor comes to the top, which keeps its items, one for both.
func TestP182FloorIsTop(t *testing.T) {
	h := two(t, 6)
	item(t, h, 6, 6, 2, 3, 2)
	wantTold(t, h, told{inc: 7, floor: 6, top: 6, use: 6, said: 10, lowHas: 3, lowOf: 3, highHas: 3, highOf: 3})
	wantCount(t, h, 3, 0, 0)

	h = New(1)
	item(t, h, 1, 2, 0, 3, 1)
	item(t, h, 2, 2, 1, 3, 1)
	wantCount(t, h, 2, 2, 3)
	item(t, h, 2, 5, 0, 9, 1)
	item(t, h, 2, 2, 2, 3, 1)
	wantTold(t, h, told{inc: 1, floor: 2, top: 5, lowHas: 3, lowOf: 3, highHas: 1, highOf: 9})
}

// TestP182FloorAboveTop: all is gone, and the top is the floor.
func TestP182FloorAboveTop(t *testing.T) {
	for _, use := range []int{0, 3, 6} {
		h := two(t, use)
		item(t, h, 8, 6, 0, 3, 0)
		wantTold(t, h, told{inc: 7, floor: 8, top: 8})
		wantCount(t, h, 3, 0, 0)
		wantCount(t, h, 6, 0, 0)
		item(t, h, 8, 8, 1, 4, 0)
		item(t, h, 8, 8, 0, 4, 1)
		wantTold(t, h, told{inc: 7, floor: 8, top: 8, lowHas: 1, lowOf: 4, highHas: 1, highOf: 4})
	}
}

// TestP182FloorAndEpochAbove: both of an item above the top.
func TestP182FloorAndEpochAbove(t *testing.T) {
	for _, use := range []int{0, 3, 6} {
		h := two(t, use)
		item(t, h, 8, 9, 0, 4, 1)
		wantTold(t, h, told{inc: 7, floor: 8, top: 9, highHas: 1, highOf: 4})

		h = two(t, use)
		item(t, h, 8, 8, 0, 4, 1)
		wantTold(t, h, told{inc: 7, floor: 8, top: 8, lowHas: 1, lowOf: 4, highHas: 1, highOf: 4})

		h = two(t, use)
		item(t, h, 9, 8, 0, 4, 0)
		wantTold(t, h, told{inc: 7, floor: 9, top: 9})
	}
}

// TestP182Epoch: above the top, the top, the floor, between both, below the floor.
func TestP182Epoch(t *testing.T) {
	h := two(t, 3)
	unchanged(t, h, func() {
		item(t, h, 3, 6, 1, 3, 2)
		item(t, h, 3, 3, 1, 2, 2)
		for _, epoch := range []int{1, 2, 4, 5} {
			item(t, h, 3, epoch, 0, 1, 0)
			item(t, h, 3, epoch, 0, 2, 0)
			item(t, h, 0, epoch, 1, 3, 0)
		}
	})
	item(t, h, 3, 7, 0, 2, 1)
	wantTold(t, h, told{inc: 7, floor: 3, top: 7, use: 3, said: 10, lowHas: 2, lowOf: 2, highHas: 1, highOf: 2})
	wantCount(t, h, 6, 0, 0)
	item(t, h, 3, 6, 0, 3, 0)
	wantCount(t, h, 6, 0, 0)
}

// TestP182ComesThough: an item that is told 0 for its place, or its epoch, comes to its floor and epoch all the same.
func TestP182ComesThough(t *testing.T) {
	h := two(t, 6)
	item(t, h, 3, 9, 1, 2, 0)
	wantTold(t, h, told{inc: 7, floor: 3, top: 9, lowHas: 2, lowOf: 2})
	wantCount(t, h, 6, 0, 0)
	item(t, h, 5, 4, 0, 1, 0)
	wantTold(t, h, told{inc: 7, floor: 5, top: 9})
	item(t, h, 0, 5, 0, 1, 1)
	item(t, h, 7, 9, 3, 4, 0)
	wantTold(t, h, told{inc: 7, floor: 7, top: 9})
	item(t, h, 9, 9, 0, 4, 1)
	item(t, h, 11, 9, 0, 4, 0)
	wantTold(t, h, told{inc: 7, floor: 11, top: 11})
}

// TestP182InUse: none is in use as soon as what was is neither floor nor top.
func TestP182InUse(t *testing.T) {
	for _, x := range []struct{ use, floor, epoch, want int }{
		{3, 3, 6, 3}, {3, 3, 7, 3}, {3, 0, 99, 3}, {3, 4, 6, 0}, {3, 4, 4, 0}, {3, 6, 6, 0}, {3, 7, 6, 0}, {3, 3, 2, 3}, {3, 4, 1, 0},
		{6, 3, 6, 6}, {6, 3, 7, 0}, {6, 4, 6, 6}, {6, 6, 6, 6}, {6, 6, 7, 6}, {6, 5, 7, 0}, {6, 7, 6, 0}, {6, 7, 7, 0}, {6, 3, 5, 6},
	} {
		h := two(t, x.use)
		h.Item(x.floor, x.epoch, 0, 3)
		when := 0
		if x.want > 0 {
			when = 10
		}
		wantUse(t, h, x.want, when)
	}
}

// TestP182Again: an epoch that was gone and is the floor later has nothing of what it had.
func TestP182Again(t *testing.T) {
	h := New(1)
	fill(t, h, 0, 4, 2)
	lead(t, h, 5, 4, 0, true)
	item(t, h, 0, 8, 0, 1, 1)
	wantUse(t, h, 0, 0)
	item(t, h, 4, 8, 0, 1, 2)
	wantTold(t, h, told{inc: 1, floor: 4, top: 8, highHas: 1, highOf: 1})
	item(t, h, 4, 4, 1, 2, 0)
	fill(t, h, 4, 4, 3)
	lead(t, h, 2, 4, 4, true)
	wantTold(t, h, told{inc: 1, floor: 4, top: 8, use: 4, said: 2, lowHas: 3, lowOf: 3, highHas: 1, highOf: 1})
}

// TestP182TopWithoutFloor: a floor of 0 has no items, so the top alone is held.
func TestP182TopWithoutFloor(t *testing.T) {
	h := New(1)
	for epoch := 1; epoch <= 9; epoch++ {
		fill(t, h, 0, epoch, 2)
		wantTold(t, h, told{inc: 1, top: epoch, highHas: 2, highOf: 2})
		for other := -1; other <= 10; other++ {
			if other != epoch {
				wantCount(t, h, other, 0, 0)
			}
		}
	}
}

// TestP182AnySize: numbers of any size are epochs, and numbers of items.
func TestP182AnySize(t *testing.T) {
	h := New(1)
	item(t, h, 0, 1, 0, math.MaxInt, 1)
	item(t, h, 0, 1, 1, math.MaxInt, 1)
	item(t, h, 0, 1, math.MaxInt-1, math.MaxInt, 0)
	wantCount(t, h, 1, 2, math.MaxInt)
	item(t, h, api.MaxNumber+1, math.MaxInt-1, 0, 1, 1)
	wantBounds(t, h, api.MaxNumber+1, math.MaxInt-1)
	item(t, h, math.MaxInt-1, math.MaxInt, 0, 1, 1)
	wantTold(t, h, told{inc: 1, floor: math.MaxInt - 1, top: math.MaxInt, lowHas: 1, lowOf: 1, highHas: 1, highOf: 1})
	item(t, h, math.MaxInt, math.MaxInt, 0, 1, 2)
	wantBounds(t, h, math.MaxInt, math.MaxInt)
	lead(t, h, math.MaxInt, math.MaxInt, math.MaxInt, true)
	wantUse(t, h, math.MaxInt, math.MaxInt)
	item(t, h, math.MaxInt, math.MaxInt-1, 0, 1, 0)
}
