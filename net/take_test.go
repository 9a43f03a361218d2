package net

import (
	"math"
	"slices"
	"strconv"
	"testing"

	"milepost/api"
)

// TestP173NoLink: there is no such link, whether such a letter is anywhere or not.
func TestP173NoLink(t *testing.T) {
	x := five(t)
	for _, wrong := range []int{math.MinInt, -1, 3, 6, 7, math.MaxInt} {
		for _, at := range [][2]int{{wrong, 2}, {1, wrong}, {wrong, wrong}, {wrong, 0}, {0, wrong}} {
			for _, i := range []int{math.MinInt, -1, 0, 4, 5, math.MaxInt} {
				unchanged(t, x, func() {
					if s, e := x.Peek(at[0], at[1], i); s != "" || e != api.ErrArg {
						t.Error("Peek:", at, i, s, e)
					}
					if s, e := x.Take(at[0], at[1], i); s != "" || e != api.ErrArg {
						t.Error("Take:", at, i, s, e)
					}
					if e := x.Twice(at[0], at[1], i); e != api.ErrArg {
						t.Error("Twice:", at, i, e)
					}
				})
			}
		}
	}
}

// TestP173NoLetter: below the first and above the last one, of a link that is full, of one with some letters and of one without.
func TestP173NoLetter(t *testing.T) {
	x := five(t)
	for _, at := range [][2]int{{1, 2}, {2, 1}, {0, 0}, {2, 2}} {
		many := x.Count(at[0], at[1])
		for _, i := range []int{math.MinInt, -2, -1, many, many + 1, 512, math.MaxInt} {
			unchanged(t, x, func() {
				if s, e := x.Peek(at[0], at[1], i); s != "" || e != api.ErrNone {
					t.Error("Peek:", at, i, s, e)
				}
				if s, e := x.Take(at[0], at[1], i); s != "" || e != api.ErrNone {
					t.Error("Take:", at, i, s, e)
				}
				// On the link that is full this is told ahead of ErrFull.
				if e := x.Twice(at[0], at[1], i); e != api.ErrNone {
					t.Error("Twice:", at, i, e)
				}
			})
		}
	}
}

func TestP173Peek(t *testing.T) {
	x := five(t)
	for i, want := range []string{"a", "b", "", "d", "e"} {
		unchanged(t, x, func() {
			if s, e := x.Peek(1, 2, i); s != want || e != api.OK {
				t.Error("Peek:", i, s, e)
			}
		})
	}
}

// TestP173Take: the first, each in the midst, and the last one; the others stay in their order, and are taken then from each place again.
func TestP173Take(t *testing.T) {
	for i := range 5 {
		for k := range 4 {
			x := five(t)
			row := []string{"a", "b", "", "d", "e"}
			for _, place := range []int{i, k} {
				want := row[place]
				if s, e := x.Take(1, 2, place); s != want || e != api.OK {
					t.Error("Take:", i, k, s, e)
				}
				row = slices.Delete(row, place, place+1)
				wantLink(t, x, 1, 2, row...)
			}
			wantLink(t, x, 2, 1, "back")
			if s, e := x.Take(1, 2, 3); s != "" || e != api.ErrNone {
				t.Error("Take:", i, k, s, e)
			}
			send(t, x, 1, 2, "f")
			wantLink(t, x, 1, 2, append(row, "f")...)
		}
	}
}

// TestP173TakeAll: a link can be emptied and filled again and again.
func TestP173TakeAll(t *testing.T) {
	x := fresh(t, 1, 3)
	for round := range 5 {
		for i := range 3 {
			send(t, x, 1, 1, strconv.Itoa(10*round+i))
		}
		if e := x.Send(1, 1, "no room"); e != api.ErrFull {
			t.Error(e)
		}
		for i := range 3 {
			if s, e := x.Take(1, 1, 0); s != strconv.Itoa(10*round+i) || e != api.OK {
				t.Error(round, i, s, e)
			}
		}
		wantNone(t, x)
	}
}

// TestP173Twice: the first, each in the midst, and the last one; the same stands behind all others then.
func TestP173Twice(t *testing.T) {
	row := []string{"a", "b", "", "d", "e"}
	for i := range 5 {
		x := fresh(t, 2, 6)
		send(t, x, 2, 1, "back")
		for _, s := range row {
			send(t, x, 1, 2, s)
		}
		if e := x.Twice(1, 2, i); e != api.OK {
			t.Error("Twice:", i, e)
		}
		wantLink(t, x, 1, 2, append(slices.Clone(row), row[i])...)
		wantLink(t, x, 2, 1, "back")
		if many := x.Total(); many != 7 {
			t.Error("Total:", many)
		}
		// Now it is full.
		for k := range 6 {
			unchanged(t, x, func() {
				if e := x.Twice(1, 2, k); e != api.ErrFull {
					t.Error("Twice:", k, e)
				}
			})
		}
		// The letter and its double go each by itself.
		if s, e := x.Take(1, 2, i); s != row[i] || e != api.OK {
			t.Error("Take:", i, s, e)
		}
		if s, e := x.Peek(1, 2, 4); s != row[i] || e != api.OK {
			t.Error("Peek:", i, s, e)
		}
		if e := x.Twice(1, 2, 4); e != api.OK {
			t.Error("Twice:", e)
		}
	}
}

// TestP173TwiceFull: with room for one letter there is none for its double; with the most room neither.
func TestP173TwiceFull(t *testing.T) {
	for _, room := range []int{1, 2, api.MaxQueue} {
		x := fresh(t, 6, room)
		send(t, x, 6, 6, "a")
		for range room - 1 {
			if e := x.Twice(6, 6, x.Count(6, 6)-1); e != api.OK {
				t.Error("Twice:", room, e)
			}
		}
		unchanged(t, x, func() {
			for _, i := range []int{0, room / 2, room - 1} {
				if e := x.Twice(6, 6, i); e != api.ErrFull {
					t.Error("Twice:", room, i, e)
				}
			}
			if e := x.Send(6, 6, "a"); e != api.ErrFull {
				t.Error("Send:", room, e)
			}
		})
	}
}

// TestP174OldestTaken: the oldest one is taken from its place 0, and then the next one is the oldest; one that was taken from the midst isn't met.
func TestP174OldestTaken(t *testing.T) {
	x := fresh(t, 2, 9)
	for _, at := range [][2]int{{2, 2}, {0, 1}, {2, 2}, {1, 0}, {0, 1}, {2, 2}} {
		send(t, x, at[0], at[1], "a")
	}
	wantOldest(t, x, 2, 2)
	x.Take(2, 2, 1)
	wantOldest(t, x, 2, 2)
	for _, next := range [][2]int{{0, 1}, {1, 0}, {0, 1}, {2, 2}} {
		from, to, _ := x.Oldest()
		if _, e := x.Take(from, to, 0); e != api.OK {
			t.Error(e)
		}
		wantOldest(t, x, next[0], next[1])
	}
	x.Take(2, 2, 0)
	wantNone(t, x)
}

// TestP174OldestStays: what comes later, on whichever link, changes nothing, nor does a call that fails.
func TestP174OldestStays(t *testing.T) {
	x := fresh(t, 6, 2)
	send(t, x, 3, 4, "the oldest")
	for from := range 7 {
		for to := range 7 {
			for range 3 {
				x.Send(from, to, "a")
				x.Twice(from, to, 0)
				wantOldest(t, x, 3, 4)
			}
		}
	}
	x.Take(7, 7, 0)
	x.Take(3, 4, 2)
	x.Take(3, 4, -1)
	wantOldest(t, x, 3, 4)
	// Its double is as young as all that came with it.
	x.Take(3, 4, 0)
	wantOldest(t, x, 0, 0)
}

// TestP174OldestTwice: a double is a letter of its own, younger than all that were there when it came to be, older than all behind it.
func TestP174OldestTwice(t *testing.T) {
	x := fresh(t, 2, 9)
	send(t, x, 2, 0, "a")
	send(t, x, 0, 2, "b")
	if e := x.Twice(2, 0, 0); e != api.OK {
		t.Fatal(e)
	}
	send(t, x, 0, 1, "c")
	for _, want := range []api.Letter{{From: 2, To: 0, Data: "a"}, {From: 0, To: 2, Data: "b"}, {From: 2, To: 0, Data: "a"}, {From: 0, To: 1, Data: "c"}} {
		wantOldest(t, x, want.From, want.To)
		if s, e := x.Take(want.From, want.To, 0); s != want.Data || e != api.OK {
			t.Error(s, e, want)
		}
	}
	wantNone(t, x)
}

// TestP174AllInTheirOrder: letters on all links by turns, in an order that isn't that of the addresses, all taken as they came to be.
func TestP174AllInTheirOrder(t *testing.T) {
	x := fresh(t, 6, 20)
	var came []api.Letter
	for i := range 400 {
		// 49 and 20 have nothing in common: all links have their turn.
		k := i * 20 % 49
		one := api.Letter{From: k / 7, To: k % 7, Data: strconv.Itoa(i)}
		if i%5 == 4 && x.Count(one.From, one.To) > 0 {
			one.Data, _ = x.Peek(one.From, one.To, 0)
			if e := x.Twice(one.From, one.To, 0); e != api.OK {
				t.Fatal(e)
			}
		} else {
			send(t, x, one.From, one.To, one.Data)
		}
		came = append(came, one)
	}
	for i, want := range came {
		if many := x.Total(); many != len(came)-i {
			t.Fatal("Total:", i, many)
		}
		from, to, ok := x.Oldest()
		if from != want.From || to != want.To || !ok {
			t.Fatal("Oldest:", i, from, to, ok, want)
		}
		if s, e := x.Take(from, to, 0); s != want.Data || e != api.OK {
			t.Fatal("Take:", i, s, e, want)
		}
	}
	wantNone(t, x)
}
