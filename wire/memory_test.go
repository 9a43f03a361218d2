package wire

import (
	"bytes"
	"slices"
	"testing"

	"milepost/api"
)

// roomy is some bytes, and all of the room that they have: the same memory.
func roomy(b []byte, room int) ([]byte, []byte) {
	whole := slices.Concat(b, bytes.Repeat([]byte{0xee}, room))
	return whole[:len(b)], whole
}

// way is a call that is handed bytes and answers some, with bytes of which it makes an answer.
type way struct {
	name string
	in   []byte
	call func(b []byte) []byte
}

func ways() []way {
	put := func(b []byte) []byte {
		out, _ := Put(b, 0x0102030405060708, 8)
		return out
	}
	putCube := func(b []byte) []byte {
		return PutCube(b, api.Cube{Value: ones, Mask: api.Header{3: 255, 12: 7}})
	}
	seal := func(b []byte) []byte {
		out, _ := Seal(3, b)
		return out
	}
	open := func(b []byte) []byte {
		_, out, _ := Open(b)
		return out
	}
	return []way{
		{"Put", []byte{1, 2, 3}, put},
		{"Put behind nothing", nil, put},
		{"PutCube", []byte{1, 2, 3}, putCube},
		{"PutCube behind nothing", nil, putCube},
		{"Seal", []byte{1, 2, 3}, seal},
		{"Seal of nothing", nil, seal},
		{"Seal of the longest", make([]byte, 65535), seal},
		{"Open", []byte{0, 4, 3, 9, 8, 7, 6}, open},
		{"Open of no body", []byte{0, 0, 3}, open},
		{"Open of the longest", append([]byte{255, 255, 3}, make([]byte, 65535)...), open},
	}
}

func overwrite(b []byte) {
	b = b[:cap(b)]
	for i := range b {
		b[i] ^= 0x55
	}
}

// What is handed in stays as it is, the room behind it too, by the call and by what is written into the answer.
func TestP94HandedInStays(t *testing.T) {
	for _, w := range ways() {
		for _, room := range []int{0, 1, 3, 26, 200} {
			b, whole := roomy(w.in, room)
			before := bytes.Clone(whole)
			out := w.call(b)
			if !bytes.Equal(whole, before) {
				t.Errorf("%s with room %d: the call changes what is handed in", w.name, room)
			}
			overwrite(out)
			if !bytes.Equal(whole, before) {
				t.Errorf("%s with room %d: the answer is what was handed in", w.name, room)
			}
		}
	}
}

// No answer is in another one, nor in what was handed in, nor is any kept.
func TestP94AnswersAreNew(t *testing.T) {
	for _, w := range ways() {
		for _, room := range []int{0, 1, 3, 26, 200} {
			b, whole := roomy(w.in, room)
			first, second := w.call(b), w.call(b)
			want := bytes.Clone(second)
			if !bytes.Equal(first, want) {
				t.Errorf("%s with room %d: two answers differ", w.name, room)
			}
			overwrite(first)
			if third := w.call(b); !bytes.Equal(second, want) || !bytes.Equal(third, want) {
				t.Errorf("%s with room %d: two answers share memory", w.name, room)
			}
			overwrite(whole)
			if !bytes.Equal(second, want) {
				t.Errorf("%s with room %d: the answer goes with what was handed in", w.name, room)
			}
		}
	}
}

// Two lists that begin alike, in one memory, don't get into each other's way.
func TestP94TwoBehindOne(t *testing.T) {
	b, _ := roomy([]byte{7}, 64)
	one, _ := Put(b, 1, 2)
	two, _ := Put(b, 2, 2)
	c, d := PutCube(b, api.Cube{}), PutCube(b, api.Cube{Value: ones, Mask: ones})
	if string(one) != "\x07\x00\x01" || string(two) != "\x07\x00\x02" || c[1] != 0 || d[1] != 255 {
		t.Error(one, two, c, d)
	}
	longer, _ := Put(one, 3, 1)
	other, _ := Put(one, 4, 1)
	if string(longer) != "\x07\x00\x01\x03" || string(other) != "\x07\x00\x01\x04" {
		t.Error(longer, other)
	}
}

// The calls that only look at bytes change none of them, nor do those that fail.
func TestP94LooksAlone(t *testing.T) {
	b, whole := roomy(behind(plainly(right("01*1")), plainly(api.Cube{Value: ones})), 40)
	before := bytes.Clone(whole)
	c, _ := TakeCube(b, 0)
	Take(b, 3, 8)
	Take(b, 50, 8)
	Take(b, -1, 8)
	TakeCube(b, 26)
	TakeCube(b, 27)
	TakeCube(b, -1)
	Put(b, 256, 1)
	Put(b, 1, 9)
	Seal(256, b)
	Open(b)
	if !bytes.Equal(whole, before) {
		t.Error("bytes that were looked at have changed")
	}
	overwrite(whole)
	if c != right("01*1") {
		t.Error("a cube goes with the bytes that it was taken of:", c)
	}
	long, room := roomy(make([]byte, 65536), 40)
	before = bytes.Clone(room)
	Seal(1, long)
	if !bytes.Equal(room, before) {
		t.Error("a body that is too long has changed")
	}
}
