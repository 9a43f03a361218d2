package wire

import (
	"bytes"
	"math"
	"testing"

	"milepost/api"
)

// bodies are of the lengths at which a frame's length changes its bytes, up to the longest.
func bodies() [][]byte {
	x := noise(93)
	out := [][]byte{nil, {}, {0}, {9}, {255}}
	for _, many := range []int{2, 3, 26, 127, 128, 255, 256, 257, 511, 512, 32767, 32768, 65279, 65280, 65534, 65535} {
		out = append(out, x.bytes(many))
	}
	return out
}

func noKinds() []int {
	return []int{-1, -2, -255, -256, 256, 257, 511, 65536, 1 << 32, 1<<32 + 3, math.MinInt, math.MaxInt}
}

func TestP93Examples(t *testing.T) {
	seals(t, 3, []byte{9}, []byte{0, 1, 3, 9}, api.OK)
	opens(t, []byte{0, 1, 3, 9}, 3, []byte{9}, api.OK)
	opens(t, []byte{0, 2, 3, 9}, 0, nil, api.ErrForm)
}

func TestP93Seal(t *testing.T) {
	seals(t, 0, nil, []byte{0, 0, 0}, api.OK)
	seals(t, 255, []byte{}, []byte{0, 0, 255}, api.OK)
	seals(t, 7, make([]byte, 256), append([]byte{1, 0, 7}, make([]byte, 256)...), api.OK)
	seals(t, 7, make([]byte, 65535), append([]byte{255, 255, 7}, make([]byte, 65535)...), api.OK)
	for _, body := range bodies() {
		for _, kind := range []int{0, 1, 3, 127, 128, 254, 255} {
			seals(t, kind, body, behind(written(uint64(len(body)), 2), []byte{byte(kind)}, body), api.OK)
		}
	}
	for kind := range 256 {
		seals(t, kind, []byte{1, 2}, []byte{0, 2, byte(kind), 1, 2}, api.OK)
	}
}

// A kind that can't be is told ahead of a body that is too long.
func TestP93SealFaults(t *testing.T) {
	for _, many := range []int{0, 1, 256, 65535, 65536, 65537, 131072} {
		body := make([]byte, many)
		for _, kind := range noKinds() {
			seals(t, kind, body, nil, api.ErrArg)
		}
		for _, kind := range []int{0, 3, 255} {
			if many > 65535 {
				seals(t, kind, body, nil, api.ErrLong)
			}
		}
	}
	// What stands in the room behind a body doesn't count.
	seals(t, 1, make([]byte, 1, 70000), []byte{0, 1, 1, 0}, api.OK)
}

func TestP93Open(t *testing.T) {
	opens(t, []byte{0, 0, 0}, 0, nil, api.OK)
	opens(t, []byte{0, 0, 255}, 255, nil, api.OK)
	opens(t, []byte{0, 2, 4, 5, 6}, 4, []byte{5, 6}, api.OK)
	for _, body := range bodies() {
		for _, kind := range []int{0, 1, 3, 127, 128, 254, 255} {
			frame, e := Seal(kind, body)
			if e != api.OK {
				t.Fatal(kind, len(body), e)
			}
			opens(t, frame, kind, body, api.OK)
			opens(t, frame[:len(frame)-1], 0, nil, api.ErrForm)
			opens(t, append(frame, 0), 0, nil, api.ErrForm)
		}
	}
}

// No frame has fewer than three bytes, whatever stands behind them.
func TestP93OpenTooFew(t *testing.T) {
	for _, room := range [][]byte{{0, 0, 0, 0, 0, 0}, {0, 1, 3, 9}, {255, 255, 255, 255}} {
		for many := range 3 {
			opens(t, room[:many], 0, nil, api.ErrForm)
			opens(t, bytes.Clone(room[:many]), 0, nil, api.ErrForm)
		}
	}
	opens(t, nil, 0, nil, api.ErrForm)
	opens(t, []byte{}, 0, nil, api.ErrForm)
	opens(t, []byte{0, 2, 3, 9, 9, 9}[:4], 0, nil, api.ErrForm)
}

// The length must be that of the body, in both its bytes.
func TestP93OpenOtherLength(t *testing.T) {
	for _, many := range []int{0, 1, 2, 3, 255, 256, 258, 300, 65535} {
		for _, length := range []int{0, 1, 2, 3, 4, 255, 256, 257, 258, 259, 300, 512, 513, 65280, 65534, 65535} {
			frame := behind(written(uint64(length), 2), []byte{6}, make([]byte, many))
			if length == many {
				opens(t, frame, 6, make([]byte, many), api.OK)
			} else {
				opens(t, frame, 0, nil, api.ErrForm)
			}
		}
	}
	// A body beyond the longest one has no length, nor has it the one that is left when it goes round.
	for _, many := range []int{65536, 65537, 65536 + 300, 131071, 131072} {
		opens(t, behind(written(uint64(many%65536), 2), []byte{6}, make([]byte, many)), 0, nil, api.ErrForm)
		opens(t, behind([]byte{255, 255, 6}, make([]byte, many)), 0, nil, api.ErrForm)
	}
}

// Bytes are a frame's just if Seal makes them of what Open answers.
func TestP93OpenIsSealsOwn(t *testing.T) {
	frames, others := 0, 0
	for i := range 4 * 4 * 4 * 4 * 4 {
		for many := range 6 {
			b := make([]byte, many)
			for place, rest := 0, i; place < many; place, rest = place+1, rest/4 {
				b[place] = byte(rest % 4)
			}
			kind, body, e := Open(b)
			again, _ := Seal(kind, body)
			want := many > 2 && b[0] == 0 && int(b[1]) == many-3
			if (e == api.OK) != want || want != bytes.Equal(again, b) {
				t.Errorf("Open(%v): %d, %v, %d", b, kind, body, e)
			}
			if want {
				frames++
			} else {
				others++
			}
		}
	}
	if frames < 100 || others < 100 {
		t.Error("the bytes are too much of one kind:", frames, others)
	}
}
