package wire

import (
	"bytes"
	"math"
	"testing"

	"milepost/api"
	"milepost/cube"
)

// The tests are named by the promises of shared/doc/09-wire.md.

func TestP91Examples(t *testing.T) {
	puts(t, []byte{7}, 258, 2, []byte{7, 1, 2}, api.OK)
	puts(t, nil, 256, 1, nil, api.ErrRange)
	takes(t, []byte{7, 1, 2}, 1, 2, 258, api.OK)
}

func TestP91Put(t *testing.T) {
	puts(t, nil, 0, 1, []byte{0}, api.OK)
	puts(t, nil, 0, 8, []byte{0, 0, 0, 0, 0, 0, 0, 0}, api.OK)
	puts(t, nil, 255, 1, []byte{255}, api.OK)
	puts(t, nil, 0x0102030405060708, 8, []byte{1, 2, 3, 4, 5, 6, 7, 8}, api.OK)
	puts(t, []byte{9}, 0x01020304050607, 7, []byte{9, 1, 2, 3, 4, 5, 6, 7}, api.OK)
	puts(t, []byte{}, math.MaxUint64, 8, bytes.Repeat([]byte{255}, 8), api.OK)
	fit, more := 0, 0
	for _, front := range fronts() {
		for _, n := range edgeNumbers() {
			for size := 1; size <= 8; size++ {
				if fits(n, size) {
					fit++
					puts(t, front, n, size, behind(front, written(n, size)), api.OK)
				} else {
					more++
					puts(t, front, n, size, nil, api.ErrRange)
				}
			}
		}
	}
	if fit < 500 || more < 500 {
		t.Error("the numbers are too much of one kind:", fit, more)
	}
}

// The greatest number that just fits, and one more, size by size.
func TestP91PutJustFits(t *testing.T) {
	for size := 1; size < 8; size++ {
		most := power(8*size, 1).Uint64()
		puts(t, nil, most, size, bytes.Repeat([]byte{255}, size), api.OK)
		puts(t, nil, most+1, size, nil, api.ErrRange)
		puts(t, nil, most+1, size+1, append([]byte{1}, make([]byte, size)...), api.OK)
		puts(t, nil, math.MaxUint64, size, nil, api.ErrRange)
		puts(t, nil, 1<<63, size, nil, api.ErrRange)
	}
}

// A size that can't be is told ahead of a number that needs more.
func TestP91PutNoSize(t *testing.T) {
	for _, size := range noSizes() {
		for _, front := range fronts() {
			for _, n := range edgeNumbers() {
				puts(t, front, n, size, nil, api.ErrArg)
			}
		}
	}
}

func TestP91Take(t *testing.T) {
	x := noise(91)
	for _, many := range []int{0, 1, 2, 7, 8, 9, 16, 30} {
		b := x.bytes(many)
		for size := 1; size <= 8; size++ {
			for at := range many + 10 {
				if at+size <= many {
					takes(t, b, at, size, numberOf(b[at:at+size]), api.OK)
				} else {
					takes(t, b, at, size, 0, api.ErrForm)
				}
			}
			for _, at := range farPlaces(many) {
				takes(t, b, at, size, 0, api.ErrForm)
			}
		}
	}
	takes(t, bytes.Repeat([]byte{255}, 9), 1, 8, math.MaxUint64, api.OK)
	takes(t, []byte{128, 0, 0, 0, 0, 0, 0, 0}, 0, 8, 1<<63, api.OK)
	takes(t, []byte{0, 0, 0, 0, 0, 0, 0, 0}, 0, 8, 0, api.OK)
}

// What stands in the room behind the bytes is not there.
func TestP91TakeFromRoom(t *testing.T) {
	room := bytes.Repeat([]byte{5}, 64)
	for size := 1; size <= 8; size++ {
		takes(t, room[:8], 8-size, size, numberOf(room[:size]), api.OK)
		takes(t, room[:8], 9-size, size, 0, api.ErrForm)
		takes(t, room[:0], 0, size, 0, api.ErrForm)
		takes(t, nil, 0, size, 0, api.ErrForm)
		takes(t, []byte{}, 0, size, 0, api.ErrForm)
	}
}

// An argument that can't be is told ahead of bytes that aren't there.
func TestP91TakeNoArgument(t *testing.T) {
	for _, b := range [][]byte{nil, {}, {7}, bytes.Repeat([]byte{7}, 300)} {
		for _, size := range noSizes() {
			for _, at := range append(append(farPlaces(len(b)), noPlaces()...), 0, 1) {
				takes(t, b, at, size, 0, api.ErrArg)
			}
		}
		for _, at := range noPlaces() {
			for size := 1; size <= 8; size++ {
				takes(t, b, at, size, 0, api.ErrArg)
			}
		}
	}
}

// What was put is taken again, wherever it stands.
func TestP91PutAndTake(t *testing.T) {
	for _, front := range fronts() {
		for _, n := range edgeNumbers() {
			for size := 1; size <= 8; size++ {
				b, e := Put(front, n, size)
				if e != api.OK {
					continue
				}
				takes(t, b, len(front), size, n, api.OK)
				b, _ = Put(b, 0xabcdef, 3)
				takes(t, b, len(front), size, n, api.OK)
				takes(t, b, len(front)+size, 3, 0xabcdef, api.OK)
				takes(t, b, len(front)+size+1, 3, 0, api.ErrForm)
			}
		}
	}
}

func TestP92PutCube(t *testing.T) {
	for _, front := range fronts() {
		for _, c := range someCubes() {
			want := behind(front, plainly(right(cube.Text(c))))
			if got := PutCube(front, c); !bytes.Equal(got, want) {
				t.Errorf("PutCube(%v, %v): %v, not %v", front, c, got, want)
			}
		}
	}
	// Value stands ahead of Mask, each byte at its place.
	c := api.Cube{Value: api.Header{1, 2, 3, 4, 5, 6, 7, 8, 9, 10, 11, 12, 13}, Mask: ones}
	if got := PutCube(nil, c); string(got) != "\x01\x02\x03\x04\x05\x06\x07\x08\x09\x0a\x0b\x0c\x0d"+string(ones[:]) {
		t.Error(got)
	}
	c.Mask = api.Header{3: 6}
	if got := PutCube([]byte{8}, c); len(got) != 27 || got[4] != 4 || got[17] != 6 || bytes.Count(got, []byte{0}) != 24 {
		t.Error(got)
	}
}

func TestP92TakeCube(t *testing.T) {
	for _, front := range [][]byte{nil, {7}, {0, 255, 1}, bytes.Repeat([]byte{255}, 26), make([]byte, 100)} {
		for _, c := range someCubes() {
			for _, back := range [][]byte{nil, {0}, {255}, bytes.Repeat([]byte{255}, 30)} {
				b := behind(front, plainly(c), back)
				if c == right(cube.Text(c)) {
					takesCube(t, b, len(front), c, api.OK)
				} else {
					takesCube(t, b, len(front), nothing, api.ErrForm)
				}
			}
		}
	}
}

// A single one of Value where Mask has a nought is enough, wherever it stands.
func TestP92TakeCubeNotRight(t *testing.T) {
	for _, c := range []api.Cube{{}, right("0110"), {Value: ones, Mask: ones}} {
		for i := range api.HeadBits {
			d := c
			d.Value[i/8] ^= 128 >> (i % 8)
			if cube.Text(c)[i] == '*' {
				takesCube(t, plainly(d), 0, nothing, api.ErrForm)
			} else {
				takesCube(t, plainly(d), 0, d, api.OK)
			}
			e := c
			e.Value[i/8] |= 128 >> (i % 8)
			e.Mask[i/8] &^= 128 >> (i % 8)
			takesCube(t, plainly(e), 0, nothing, api.ErrForm)
		}
	}
}

func TestP92TakeCubeTooFew(t *testing.T) {
	c := right("01*1")
	room := behind(plainly(c), plainly(c))
	for many := range 26 {
		takesCube(t, room[:many], 0, nothing, api.ErrForm)
	}
	takesCube(t, room[:26], 0, c, api.OK)
	takesCube(t, room[:27], 0, c, api.OK)
	takesCube(t, behind([]byte{3}, room)[:27], 1, c, api.OK)
	takesCube(t, behind([]byte{3}, room)[:26], 1, nothing, api.ErrForm)
	takesCube(t, nil, 0, nothing, api.ErrForm)
	takesCube(t, []byte{}, 0, nothing, api.ErrForm)
	for _, many := range []int{0, 1, 25, 26, 27, 52} {
		for at := max(many-25, 0); at < many+4; at++ {
			takesCube(t, room[:many], at, nothing, api.ErrForm)
		}
		for _, at := range farPlaces(many) {
			takesCube(t, room[:many], at, nothing, api.ErrForm)
		}
	}
	takesCube(t, room, 26, c, api.OK)
}

// A place below 0 is told ahead of bytes that aren't there, and of a cube that isn't right.
func TestP92TakeCubeNoPlace(t *testing.T) {
	for _, b := range [][]byte{nil, {}, {7}, plainly(right("01")), plainly(api.Cube{Value: ones}), make([]byte, 100)} {
		for _, at := range noPlaces() {
			takesCube(t, b, at, nothing, api.ErrArg)
		}
	}
}

// What was put is taken again: the right one of the same headers.
func TestP92PutAndTake(t *testing.T) {
	for _, front := range fronts() {
		b := front
		for _, c := range someCubes() {
			at := len(b)
			b = PutCube(b, c)
			takesCube(t, b, at, cube.Canon(c), api.OK)
			takesCube(t, b, at+1, nothing, api.ErrForm)
		}
		for i, c := range someCubes() {
			takesCube(t, b, len(front)+26*i, cube.Canon(c), api.OK)
		}
	}
}
