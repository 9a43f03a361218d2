package msg

import (
	"bytes"
	"testing"

	"milepost/api"
)

// roomy is bytes with room behind them, in which something stands; and all of it.
func roomy(b []byte, room int) ([]byte, []byte) {
	whole := append(bytes.Clone(b), bytes.Repeat([]byte{0xa5}, room)...)
	return whole[:len(b)], whole
}

// overwrite changes all bytes of an answer, the room behind it too.
func overwrite(b []byte) {
	b = b[:cap(b)]
	for i := range b {
		b[i] ^= 0x55
	}
}

// What is written into an answer changes no other one, nor the next.
func TestMemoryEncode(t *testing.T) {
	for kind := 1; kind <= kinds; kind++ {
		for _, m := range []api.Msg{{Kind: kind}, plain(kind)} {
			want := written(m)
			first, _ := Encode(m)
			second, _ := Encode(m)
			overwrite(first)
			third, _ := Encode(m)
			if !bytes.Equal(second, want) || !bytes.Equal(third, want) {
				t.Errorf("kind %d: %x, %x, not %x", kind, second, third, want)
			}
		}
	}
}

// A message is handed in as it is: a call with it leaves no trace in it, right or not.
func TestMemoryMessage(t *testing.T) {
	for kind := range kinds + 2 {
		m := plain(kind)
		m.Order = -1
		ahead := m
		Right(m)
		Encode(m)
		if m != ahead {
			t.Errorf("%+v, not %+v", m, ahead)
		}
	}
}

// What Decode is handed stays as it is, the room behind it too, whether it is a message or not; and its answer stays when the bytes change.
func TestMemoryDecode(t *testing.T) {
	for kind := 1; kind <= kinds; kind++ {
		for _, room := range []int{0, 1, 40, 200} {
			want := plain(kind)
			b, whole := roomy(written(want), room)
			ahead := bytes.Clone(whole)
			m, e := Decode(b)
			Decode(b[:len(b)-1])
			Decode(b[1:])
			Decode(nil)
			if !bytes.Equal(whole, ahead) {
				t.Errorf("kind %d with room %d: what is handed in has changed", kind, room)
			}
			overwrite(whole)
			again, f := Decode(ahead[:len(b)])
			if m != want || again != want || e != api.OK || f != api.OK {
				t.Errorf("kind %d with room %d: %+v, %d, %+v, %d", kind, room, m, e, again, f)
			}
		}
	}
}

// Nothing is kept from call to call: what comes between changes no answer.
func TestMemoryNothingKept(t *testing.T) {
	x := noise(167)
	for i := range 700 {
		m := x.message(1 + i%kinds)
		want := written(m)
		other := x.message(1 + int(x.next()%kinds))
		Encode(other)
		Decode(written(other))
		Decode(want[:len(want)-1])
		Right(api.Msg{Kind: m.Kind, Inc: -1})
		may(t, m, want)
	}
}
