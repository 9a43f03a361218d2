package net

import (
	"strings"
	"testing"
	"unsafe"

	"milepost/api"
)

// within: does a piece lie in a text's memory?
func within(text string, piece string) bool {
	from := uintptr(unsafe.Pointer(unsafe.StringData(text)))
	at := uintptr(unsafe.Pointer(unsafe.StringData(piece)))
	return at >= from && at < from+uintptr(len(text))
}

// TestMemory: neither what was handed in is kept, nor do two answers share memory.
func TestMemory(t *testing.T) {
	text := strings.Repeat("letter", 9)
	x := fresh(t, 1, 9)
	send(t, x, 0, 1, text[6:30])
	send(t, x, 0, 1, text)
	if e := x.Twice(0, 1, 0); e != api.OK {
		t.Fatal(e)
	}
	var told []string
	for i := range 3 {
		kept := x.links[0][1][i].data
		if within(text, kept) {
			t.Error("what was handed in is kept:", i)
		}
		a, _ := x.Peek(0, 1, i)
		b, _ := x.Peek(0, 1, i)
		told = append(told, kept, a, b)
	}
	for range 3 {
		s, _ := x.Take(0, 1, 0)
		told = append(told, s)
	}
	for i, s := range told {
		if within(text, s) {
			t.Error("an answer and an argument:", i)
		}
		for k, other := range told[:i] {
			if within(other, s) || within(s, other) {
				t.Error("two answers:", k, i)
			}
		}
	}
}

// TestMemoryGone: what a letter said isn't kept when it is gone.
func TestMemoryGone(t *testing.T) {
	for _, places := range [][]int{{0, 0, 0, 0}, {3, 2, 1, 0}, {1, 1, 1, 0}} {
		x := fresh(t, 0, 4)
		for _, s := range []string{"a", "b", "c", "d"} {
			send(t, x, 0, 0, s)
		}
		for _, i := range places {
			x.Take(0, 0, i)
		}
		l := x.links[0][0]
		for _, one := range l[:cap(l)] {
			if one != (letter{}) {
				t.Error(places, one)
			}
		}
	}
}

// TestMemoryNets: two nets have nothing together.
func TestMemoryNets(t *testing.T) {
	x, y := fresh(t, 2, 3), fresh(t, 2, 3)
	send(t, x, 1, 2, "x")
	send(t, y, 2, 1, "y")
	send(t, y, 1, 2, "z")
	wantLink(t, x, 1, 2, "x")
	wantLink(t, x, 2, 1)
	wantLink(t, y, 2, 1, "y")
	wantLink(t, y, 1, 2, "z")
	wantOldest(t, x, 1, 2)
	wantOldest(t, y, 2, 1)
	if s, e := x.Take(1, 2, 0); s != "x" || e != api.OK {
		t.Error(s, e)
	}
	wantNone(t, x)
	wantLink(t, y, 1, 2, "z")
}
