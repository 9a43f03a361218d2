package wait

import (
	"slices"
	"testing"

	"milepost/api"
)

// spoil changes all that a list has, its spare room too.
func spoil(l []api.Asked) {
	l = l[:cap(l)]
	for i := range l {
		l[i] = api.Asked{Seq: -1, Index: -1, Head: api.Header{1, 1}, Sent: -1, Due: -1}
	}
}

// TestMemorySpoilt: changing what is handed out changes nothing of the object.
func TestMemorySpoilt(t *testing.T) {
	w := five(t, 1)
	spoil(w.List())
	wantList(t, w, one(1, 1, 11), one(2, 1, 12), one(3, 1, 13), one(4, 1, 14), one(5, 1, 15))
	again, over := w.Tick(12)
	if !slices.Equal(again, list(one(1, 2, 22), one(2, 2, 22))) || len(over) != 0 {
		t.Error(again, over)
	}
	spoil(again)
	spoil(over)
	wantList(t, w, one(1, 2, 22), one(2, 2, 22), one(3, 1, 13), one(4, 1, 14), one(5, 1, 15))
	again, over = w.Tick(22)
	spoil(again)
	if !slices.Equal(over, list(one(1, 2, 22), one(2, 2, 22))) {
		t.Error("shared with the other list:", over)
	}
	spoil(over)
	wantList(t, w, one(3, 2, 32), one(4, 2, 32), one(5, 2, 32))
	add(t, w, 6, 22)
	cleared := w.Clear()
	add(t, w, 7, 30)
	spoil(cleared)
	wantList(t, w, one(7, 1, 40))
}

// TestMemoryKept: what is handed out is changed by nobody later.
func TestMemoryKept(t *testing.T) {
	w := fresh(t, 8, 1, 10)
	type answer struct{ got, copied []api.Asked }
	var told []answer
	keep := func(l []api.Asked) {
		told = append(told, answer{l, slices.Clone(l)})
	}
	for now := range 400 {
		w.Add(now, some(now), now)
		keep(w.List())
		again, over := w.Tick(now)
		keep(again)
		keep(over)
		switch now % 7 {
		case 3:
			if l := w.List(); len(l) > 0 {
				w.Answer(l[len(l)/2].Seq)
			}
		case 5:
			keep(w.List())
		}
		if now%50 == 49 {
			keep(w.Clear())
		}
	}
	full := 0
	for i, x := range told {
		full += min(len(x.got), 1)
		if !slices.Equal(x.got, x.copied) {
			t.Fatal("changed later:", i, x.got, x.copied)
		}
	}
	if full < 400 {
		t.Error("too few answers with somebody in them:", full)
	}
}

// TestMemoryApart: no two answers share memory, their spare room neither.
func TestMemoryApart(t *testing.T) {
	w := five(t, 1)
	var told [][]api.Asked
	told = append(told, w.List(), w.List())
	again, over := w.Tick(13)
	told = append(told, again, over, w.List())
	again, over = w.Tick(23)
	told = append(told, again, over, w.List(), w.Clear(), w.Clear())
	add(t, w, 6, 0)
	told = append(told, w.List(), w.Clear())
	owner := map[*api.Asked]int{}
	for i, l := range told {
		l = l[:cap(l)]
		for k := range l {
			if other, ok := owner[&l[k]]; ok {
				t.Error("two answers:", other, i)
			}
			owner[&l[k]] = i
		}
	}
}

// TestMemoryBounded: what is kept doesn't grow with what has been.
func TestMemoryBounded(t *testing.T) {
	w := fresh(t, 4, 1, 2)
	for now := range 5000 {
		w.Add(now, some(now), now)
		w.Answer(now - 3)
		w.Tick(now)
		if len(w.row) > 4 || cap(w.row) > 64 {
			t.Fatal(len(w.row), cap(w.row))
		}
	}
}

// TestMemoryObjects: two objects have nothing together.
func TestMemoryObjects(t *testing.T) {
	a, b := fresh(t, 2, 1, 3), fresh(t, 3, 0, 5)
	add(t, a, 1, 0)
	add(t, b, 1, 1)
	add(t, b, 2, 1)
	wantList(t, a, one(1, 1, 3))
	wantTick(t, b, 6, nil, list(one(1, 1, 6), one(2, 1, 6)))
	wantList(t, a, one(1, 1, 3))
	add(t, a, 2, 1)
	wantFull(t, a, 1)
	add(t, b, 3, 1)
	a.Clear()
	wantList(t, b, one(3, 1, 6))
}
