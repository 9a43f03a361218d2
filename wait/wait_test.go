package wait

import (
	"math"
	"slices"
	"testing"

	"milepost/api"
)

func fresh(t *testing.T, room int, tries int, time int) *Wait {
	t.Helper()
	w, e := New(room, tries, time)
	if w == nil || e != api.OK {
		t.Fatal("New:", room, tries, time, e)
	}
	return w
}

// some is a header that tells its number.
func some(n int) api.Header {
	return api.Header{0: byte(n), 5: 255, 12: byte(n >> 8)}
}

// add adds one where there is room: its Index is 100 times its Seq, its header that of its Seq.
func add(t *testing.T, w *Wait, want int, now int) {
	t.Helper()
	if seq, e := w.Add(100*want, some(want), now); seq != want || e != api.OK {
		t.Fatalf("Add at %d: %d %d, want %d 0", now, seq, e, want)
	}
}

// one is who was added so.
func one(seq int, sent int, due int) api.Asked {
	return api.Asked{Seq: seq, Index: 100 * seq, Head: some(seq), Sent: sent, Due: due}
}

func wantList(t *testing.T, w *Wait, want ...api.Asked) {
	t.Helper()
	if got := w.List(); !slices.Equal(got, want) {
		t.Errorf("List: %v, want %v", got, want)
	}
}

func wantTick(t *testing.T, w *Wait, now int, again []api.Asked, over []api.Asked) {
	t.Helper()
	a, b := w.Tick(now)
	if !slices.Equal(a, again) {
		t.Errorf("Tick(%d), again: %v, want %v", now, a, again)
	}
	if !slices.Equal(b, over) {
		t.Errorf("Tick(%d), given up: %v, want %v", now, b, over)
	}
}

func wantAnswer(t *testing.T, w *Wait, want api.Asked) {
	t.Helper()
	if got, ok := w.Answer(want.Seq); got != want || !ok {
		t.Errorf("Answer(%d): %v %v, want %v true", want.Seq, got, ok, want)
	}
}

// wantNobody: nobody has that Seq, and asking changes nothing.
func wantNobody(t *testing.T, w *Wait, seqs ...int) {
	t.Helper()
	for _, seq := range seqs {
		unchanged(t, w, func() {
			t.Helper()
			if got, ok := w.Answer(seq); got != (api.Asked{}) || ok {
				t.Errorf("Answer(%d): %v %v", seq, got, ok)
			}
		})
	}
}

func wantFull(t *testing.T, w *Wait, now int) {
	t.Helper()
	unchanged(t, w, func() {
		t.Helper()
		if seq, e := w.Add(1, some(1), now); seq != 0 || e != api.ErrFull {
			t.Errorf("Add at %d: %d %d, want 0 and ErrFull", now, seq, e)
		}
	})
}

// unchanged runs a call that must leave those who wait as they are.
func unchanged(t *testing.T, w *Wait, call func()) {
	t.Helper()
	ahead := w.List()
	call()
	wantList(t, w, ahead...)
}

func list(l ...api.Asked) []api.Asked {
	return l
}

// far are numbers of any size.
func far() []int {
	return []int{math.MinInt, math.MinInt + 1, -api.MaxTicks, math.MinInt32, -1001, -9, -2, -1, 0, 1, 2, 3, 8, 9, 64, 65, 1000, 1001, math.MaxInt32, api.MaxTicks - 1001, api.MaxTicks - 1000, api.MaxTicks - 1, api.MaxTicks, api.MaxTicks + 1, api.MaxTicks + 999, api.MaxTicks + 1000, api.MaxTicks + 1001, math.MaxInt - 1000, math.MaxInt - 1, math.MaxInt}
}

func TestExample(t *testing.T) {
	w := fresh(t, 2, 1, 3)
	h := api.Header{9, 8, 7}
	if seq, e := w.Add(7, h, 0); seq != 1 || e != api.OK {
		t.Error(seq, e)
	}
	wantTick(t, w, 2, nil, nil)
	wantTick(t, w, 3, list(api.Asked{Seq: 1, Index: 7, Head: h, Sent: 2, Due: 6}), nil)
	wantTick(t, w, 6, nil, list(api.Asked{Seq: 1, Index: 7, Head: h, Sent: 2, Due: 6}))
	wantList(t, w)
}

func TestNil(t *testing.T) {
	var w *Wait
	for _, n := range far() {
		for _, now := range []int{-1, 0, 5, api.MaxTicks + 1} {
			if seq, e := w.Add(n, some(n), now); seq != 0 || e != api.ErrNil {
				t.Error("Add:", seq, e)
			}
		}
		if got, ok := w.Answer(n); got != (api.Asked{}) || ok {
			t.Error("Answer:", got, ok)
		}
		if a, b := w.Tick(n); len(a) != 0 || len(b) != 0 {
			t.Error("Tick:", a, b)
		}
	}
	if l := w.Clear(); len(l) != 0 {
		t.Error("Clear:", l)
	}
	if l := w.List(); len(l) != 0 {
		t.Error("List:", l)
	}
}

func TestP191New(t *testing.T) {
	rooms := append(far(), 32, 63, 66, 100)
	triesOf := append(far(), 4, 7, 10)
	times := append(far(), 500, 999, 1002)
	for _, room := range rooms {
		for _, tries := range triesOf {
			for _, time := range times {
				w, e := New(room, tries, time)
				right := room >= 1 && room <= 64 && tries >= 0 && tries <= 8 && time >= 1 && time <= 1000
				if !right && (w != nil || e != api.ErrArg) {
					t.Fatal("New:", room, tries, time, w != nil, e)
				}
				if right && (w == nil || e != api.OK) {
					t.Fatal("New:", room, tries, time, e)
				}
				if right && len(w.List()) != 0 {
					t.Fatal("somebody waits:", room, tries, time)
				}
			}
		}
	}
}

// TestP191Edges: the edges one by one, all else being right.
func TestP191Edges(t *testing.T) {
	for _, x := range []struct {
		room, tries, time int
		want              api.Errno
	}{
		{0, 1, 1, api.ErrArg}, {1, 1, 1, api.OK}, {64, 1, 1, api.OK}, {65, 1, 1, api.ErrArg}, {-1, 1, 1, api.ErrArg},
		{1, -1, 1, api.ErrArg}, {1, 0, 1, api.OK}, {1, 8, 1, api.OK}, {1, 9, 1, api.ErrArg},
		{1, 1, 0, api.ErrArg}, {1, 1, 1000, api.OK}, {1, 1, 1001, api.ErrArg}, {1, 1, -1, api.ErrArg},
		{64, 8, 1000, api.OK}, {65, 9, 1001, api.ErrArg}, {0, -1, 0, api.ErrArg}, {1, 0, 1, api.OK},
	} {
		if w, e := New(x.room, x.tries, x.time); e != x.want || (w != nil) != (e == api.OK) {
			t.Error("New:", x, w != nil, e)
		}
	}
}

// TestP191Nobody: of a new one there is nobody to be told, answered, given up or cleared.
func TestP191Nobody(t *testing.T) {
	w := fresh(t, 64, 8, 1000)
	wantList(t, w)
	wantNobody(t, w, far()...)
	for _, now := range far() {
		wantTick(t, w, now, nil, nil)
	}
	if l := w.Clear(); len(l) != 0 {
		t.Error("Clear:", l)
	}
	wantList(t, w)
	add(t, w, 1, 0)
	wantList(t, w, one(1, 1, 1000))
}

// TestP192Rooms: all rooms are filled to the last place, and no further.
func TestP192Rooms(t *testing.T) {
	for room := 1; room <= 64; room++ {
		w := fresh(t, room, 2, 7)
		var want []api.Asked
		for seq := 1; seq <= room; seq++ {
			add(t, w, seq, seq)
			want = append(want, one(seq, 1, seq+7))
			wantList(t, w, want...)
		}
		for range 3 {
			wantFull(t, w, 1)
		}
	}
}

// TestP192FirstPlaces: the first one, one when all but one place is taken, one when room wait.
func TestP192FirstPlaces(t *testing.T) {
	w := fresh(t, 3, 1, 5)
	add(t, w, 1, 10)
	wantList(t, w, one(1, 1, 15))
	add(t, w, 2, 10)
	add(t, w, 3, 11)
	wantList(t, w, one(1, 1, 15), one(2, 1, 15), one(3, 1, 16))
	wantFull(t, w, 11)
	wantFull(t, w, -1)
	wantFull(t, w, math.MaxInt)
	w = fresh(t, 1, 0, 1)
	add(t, w, 1, 0)
	wantFull(t, w, 0)
	wantList(t, w, one(1, 1, 1))
}

// TestP192RoomAnew: answers, ticks and Clear make room, and one that was refused took no number.
func TestP192RoomAnew(t *testing.T) {
	w := fresh(t, 2, 0, 3)
	add(t, w, 1, 0)
	add(t, w, 2, 1)
	wantFull(t, w, 1)
	wantAnswer(t, w, one(1, 1, 3))
	add(t, w, 3, 2)
	wantFull(t, w, 2)
	wantList(t, w, one(2, 1, 4), one(3, 1, 5))
	wantTick(t, w, 4, nil, list(one(2, 1, 4)))
	add(t, w, 4, 4)
	wantFull(t, w, 4)
	if got := w.Clear(); !slices.Equal(got, list(one(3, 1, 5), one(4, 1, 7))) {
		t.Error("Clear:", got)
	}
	add(t, w, 5, 0)
	add(t, w, 6, 0)
	wantFull(t, w, 0)
	wantList(t, w, one(5, 1, 3), one(6, 1, 3))
}

// TestP192AgainKeepsItsPlace: one that is asked for again waits still, so there is no room.
func TestP192AgainKeepsItsPlace(t *testing.T) {
	w := fresh(t, 1, 2, 1)
	add(t, w, 1, 0)
	for now := 1; now <= 2; now++ {
		wantTick(t, w, now, list(one(1, now+1, now+1)), nil)
		wantFull(t, w, now)
	}
	wantTick(t, w, 3, nil, list(one(1, 3, 3)))
	add(t, w, 2, 3)
}

// TestP192SeqGoesOn: numbers are told once, whatever happens between.
func TestP192SeqGoesOn(t *testing.T) {
	w := fresh(t, 3, 0, 1)
	for seq := 1; seq <= 600; {
		for range seq%3 + 1 {
			add(t, w, seq, 0)
			seq++
		}
		switch seq % 4 {
		case 0:
			w.Clear()
		case 1:
			w.Tick(1)
		default:
			for _, x := range w.List() {
				wantAnswer(t, w, x)
			}
		}
		wantList(t, w)
	}
}

func TestP192Index(t *testing.T) {
	w := fresh(t, 64, 1, 2)
	for i, index := range far() {
		h := api.Header{byte(i), 255, byte(255 - i)}
		if seq, e := w.Add(index, h, 3); seq != i+1 || e != api.OK {
			t.Error("Add:", index, seq, e)
		}
		want := api.Asked{Seq: i + 1, Index: index, Head: h, Sent: 1, Due: 5}
		if l := w.List(); l[i] != want {
			t.Error(l[i], "want", want)
		}
	}
	for i, index := range far() {
		if x, ok := w.Answer(i + 1); !ok || x.Index != index {
			t.Error(x, ok, "want", index)
		}
	}
}

// TestP192SameTwice: what is the same in all that was handed in waits as two.
func TestP192SameTwice(t *testing.T) {
	w := fresh(t, 2, 1, 2)
	for seq := 1; seq <= 2; seq++ {
		if got, e := w.Add(4, api.Header{}, 0); got != seq || e != api.OK {
			t.Error(got, e)
		}
	}
	wantList(t, w, api.Asked{Seq: 1, Index: 4, Sent: 1, Due: 2}, api.Asked{Seq: 2, Index: 4, Sent: 1, Due: 2})
}

// TestP192Due: a time below 0 counts as 0, one above MaxTicks as that; what is reckoned from it is bounded by nothing.
func TestP192Due(t *testing.T) {
	for _, time := range []int{1, 3, 1000} {
		for _, x := range []struct{ now, counts int }{
			{math.MinInt, 0}, {-api.MaxTicks, 0}, {-1000, 0}, {-1, 0}, {0, 0}, {1, 1}, {2, 2}, {1 << 31, 1 << 31},
			{api.MaxTicks - 1000, api.MaxTicks - 1000}, {api.MaxTicks - 1, api.MaxTicks - 1}, {api.MaxTicks, api.MaxTicks},
			{api.MaxTicks + 1, api.MaxTicks}, {math.MaxInt - 1, api.MaxTicks}, {math.MaxInt, api.MaxTicks},
		} {
			w := fresh(t, 1, 8, time)
			add(t, w, 1, x.now)
			wantList(t, w, one(1, 1, x.counts+time))
		}
	}
}
