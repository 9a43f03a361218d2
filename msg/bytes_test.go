package msg

import (
	"bytes"
	"testing"

	"milepost/api"
	"milepost/cube"
	"milepost/head"
)

func TestP161Example(t *testing.T) {
	m := api.Msg{Kind: api.MsgAck, Inc: 1, Epoch: 2, At: 3}
	may(t, m, raw("00 12 04 000000000001 000000000002 000000000003"))
	m.Load = 1
	mayNot(t, m)
}

// A message of each kind, its bytes written out field by field.
func TestP161Bytes(t *testing.T) {
	c, _ := cube.Fix(cube.All(), 0, true)
	c, _ = cube.Fix(c, 103, false)
	digits := "80000000000000000000000000 80000000000000000000000001"
	for _, x := range []struct {
		m    api.Msg
		want string
	}{
		{api.Msg{Kind: 1, Inc: 1, Epoch: 2, Floor: 3, At: 4, Of: 5, One: 6, Two: 7, Cube: c},
			"00 44 01 000000000001 000000000002 000000000003 000000000004 000000000005 000000000006 000000000007" + digits},
		{api.Msg{Kind: 2, Inc: 1, Epoch: 2, Floor: 3, At: 4, Of: 5, Order: 6, Action: 7, Cube: c},
			"00 44 02 000000000001 000000000002 000000000003 000000000004 000000000005 000000000006 000000000007" + digits},
		{api.Msg{Kind: 3, Inc: 1, Sent: 2, Use: 3, Floor: 4},
			"00 18 03 000000000001 000000000002 000000000003 000000000004"},
		{api.Msg{Kind: 4, Inc: 1, Epoch: 2, At: 3},
			"00 12 04 000000000001 000000000002 000000000003"},
		{api.Msg{Kind: 5, Inc: 1, Use: 2, Epoch: 3, At: 4, Load: 5},
			"00 1e 05 000000000001 000000000002 000000000003 000000000004 000000000005"},
		{api.Msg{Kind: 6, Inc: 1, Seq: 2, Epoch: 3, Head: head.Make(0x0a0b0c0d, 0x0e0f1011, 0x1213, 0x1415, 0x16)},
			"00 1f 06 000000000001 000000000002 000000000003 0a0b0c0d 0e0f1011 1213 1415 16"},
		{api.Msg{Kind: 7, Inc: 1, Seq: 2, Epoch: 3, Action: 4, Cube: c},
			"00 32 07 000000000001 000000000002 000000000003 000000000004" + digits},
		{api.Msg{Kind: 3, Inc: 0x010203040506, Sent: 0xffffffffffff, Use: 0, Floor: 0x800000000000},
			"00 18 03 010203040506 ffffffffffff 000000000000 800000000000"},
	} {
		may(t, x.m, raw(x.want))
	}
}

// A field says something at its own place alone, and there all that it says.
func TestP161FieldByField(t *testing.T) {
	for kind := 1; kind <= kinds; kind++ {
		for i, name := range numbersOf(kind) {
			m := api.Msg{Kind: kind}
			want := written(m)
			m = with(m, name, 0x0a0b0c0d0e0f)
			copy(want[3+6*i:], "\x0a\x0b\x0c\x0d\x0e\x0f")
			may(t, m, want)
		}
	}
}

func TestP161Lengths(t *testing.T) {
	for kind, size := range map[int]int{1: 68, 2: 68, 3: 24, 4: 18, 5: 30, 6: 31, 7: 50} {
		b, e := Encode(plain(kind))
		if len(b) != 3+size || b[0] != 0 || int(b[1]) != size || int(b[2]) != kind || e != api.OK {
			t.Errorf("kind %d: %x, %d", kind, b, e)
		}
	}
}

func TestP162Again(t *testing.T) {
	x := noise(164)
	for i := range 7000 {
		m := x.message(1 + i%kinds)
		b, e := Encode(m)
		if got, f := Decode(b); got != m || e != api.OK || f != api.OK {
			t.Errorf("%+v: %x, %d, and again %+v, %d", m, b, e, got, f)
		}
	}
}

func TestP162NoFrame(t *testing.T) {
	for _, s := range []string{"", "00", "04", "0000", "0012", "01", "ffff", "ffffff", "000104", "001204", "120004"} {
		saysNothing(t, raw(s))
	}
	saysNothing(t, nil)
	saysNothing(t, []byte{})
	for kind := 1; kind <= kinds; kind++ {
		b := written(plain(kind))
		saysNothing(t, b[3:])
		saysNothing(t, b[1:])
		saysNothing(t, append(bytes.Clone(b), b...))
		saysNothing(t, append([]byte{0}, b...))
		// The length with its two bytes the other way round.
		b[0], b[1] = b[1], b[0]
		saysNothing(t, b)
	}
}

// A frame of each kind of a byte, with bodies of all lengths: it is a message only where kind and length go together.
func TestP162EachKind(t *testing.T) {
	yes := 0
	for kind := range 256 {
		saysNothing(t, frame(kind, nil))
		for size := range 100 {
			if says(t, frame(kind, make([]byte, size))) {
				yes++
			}
		}
	}
	if yes != kinds {
		t.Error("of noughts alone there are messages:", yes)
	}
}

// The bodies that messages have, behind a Kind that is none.
func TestP162NoKind(t *testing.T) {
	for kind := 1; kind <= kinds; kind++ {
		body := written(plain(kind))[3:]
		for k := range 256 {
			if k < 1 || k > kinds {
				saysNothing(t, frame(k, body))
			}
		}
	}
}

// A byte less or more, with the length that was and with the one that is. What stands in the room behind bytes that are too few says nothing.
func TestP162OtherLengths(t *testing.T) {
	for kind := 1; kind <= kinds; kind++ {
		for _, m := range []api.Msg{{Kind: kind}, plain(kind)} {
			b := written(m)
			body := b[3:]
			for size := range len(b) {
				saysNothing(t, b[:size])
			}
			for size := range len(body) {
				saysNothing(t, frame(kind, body[:size]))
				saysNothing(t, frame(kind, body[len(body)-size:]))
			}
			for _, more := range [][]byte{{0}, {1}, {255}, make([]byte, 6), make([]byte, 13), make([]byte, 26), make([]byte, 256), make([]byte, 65535-len(body))} {
				saysNothing(t, append(bytes.Clone(b), more...))
				saysNothing(t, frame(kind, append(bytes.Clone(body), more...)))
				saysNothing(t, frame(kind, append(bytes.Clone(more), body...)))
			}
			for wrong := range 256 {
				if wrong != len(body) {
					saysNothing(t, append([]byte{0, byte(wrong), byte(kind)}, body...))
				}
				if wrong != 0 {
					saysNothing(t, append([]byte{byte(wrong), byte(len(body)), byte(kind)}, body...))
				}
			}
		}
	}
}

// Numbers at both ends; all that six bytes can say is a number.
func TestP162NumbersEnds(t *testing.T) {
	for kind := 1; kind <= kinds; kind++ {
		b := written(api.Msg{Kind: kind})
		for i, name := range numbersOf(kind) {
			one := bytes.Clone(b)
			copy(one[3+6*i:], "\xff\xff\xff\xff\xff\xff")
			if m, e := Decode(one); m != with(api.Msg{Kind: kind}, name, most) || e != api.OK {
				t.Errorf("%x: %+v, %d", one, m, e)
			}
			for k := range 6 {
				one := bytes.Clone(b)
				one[3+6*i+k] = 0x80
				if m, e := Decode(one); m != with(api.Msg{Kind: kind}, name, 0x80<<(8*(5-k))) || e != api.OK {
					t.Errorf("%x: %+v, %d", one, m, e)
				}
			}
		}
	}
}

// A cube's bytes behind right numbers: any one of its bits may make it one that isn't right, and then there is no message.
func TestP162Cubes(t *testing.T) {
	for _, kind := range []int{api.MsgPart, api.MsgMod, api.MsgInstall} {
		for _, m := range []api.Msg{{Kind: kind}, plain(kind)} {
			b := written(m)
			at := len(b) - 26
			yes, no := 0, 0
			for i := range 208 {
				one := bytes.Clone(b)
				one[at+i/8] ^= 1 << (i % 8)
				if says(t, one) {
					yes++
				} else {
					no++
				}
			}
			if yes < 50 || no < 50 {
				t.Error("the bits are too much of one kind:", kind, yes, no)
			}
			one := bytes.Clone(b)
			copy(one[at:], bytes.Repeat([]byte{255}, 13))
			copy(one[at+13:], make([]byte, 13))
			saysNothing(t, one)
		}
	}
}

// Another kind's body behind a Kind: it is none, but where both are as long; then it is that Kind's message.
func TestP162AnotherKindsBytes(t *testing.T) {
	for kind := 1; kind <= kinds; kind++ {
		b := written(plain(kind))
		for k := 1; k <= kinds; k++ {
			b[2] = byte(k)
			same := k == kind || k+kind == 3
			if says(t, b) != same {
				t.Error("the bytes of", kind, "behind", k)
			}
		}
	}
	m, e := Decode(raw("00 44 02" + "000000000001 000000000002 000000000003 000000000004 000000000005 000000000006 000000000007" + "01000000000000000000000000 03000000000000000000000000"))
	want := api.Msg{Kind: 2, Inc: 1, Epoch: 2, Floor: 3, At: 4, Of: 5, Order: 6, Action: 7, Cube: api.Cube{Value: api.Header{1}, Mask: api.Header{3}}}
	if m != want || e != api.OK {
		t.Error(m, e)
	}
}

// Bytes of a message of which any one bit is another one, and bytes without a pattern.
func TestP162Reckoned(t *testing.T) {
	x := noise(165)
	yes, no := 0, 0
	look := func(b []byte) {
		t.Helper()
		if says(t, b) {
			yes++
		} else {
			no++
		}
	}
	for i := range 70 {
		b := written(x.message(1 + i%kinds))
		for k := range 8 * len(b) {
			one := bytes.Clone(b)
			one[k/8] ^= 1 << (k % 8)
			look(one)
		}
	}
	for i := range 3000 {
		body := make([]byte, []int{68, 24, 18, 30, 31, 50, i % 80}[i%7])
		for k := range body {
			body[k] = byte(x.next())
		}
		look(frame(int(x.next()%9), body))
	}
	if yes < 5000 || no < 5000 {
		t.Error("the bytes are too much of one kind:", yes, no)
	}
}

// Unlike messages have unlike bytes, all kinds together.
func TestP161Unlike(t *testing.T) {
	seen := map[string]api.Msg{}
	add := func(m api.Msg) {
		t.Helper()
		b, e := Encode(m)
		if e != api.OK {
			t.Errorf("%+v: %d", m, e)
		}
		if ahead, ok := seen[string(b)]; ok && ahead != m {
			t.Errorf("%+v and %+v: %x", ahead, m, b)
		}
		seen[string(b)] = m
	}
	x := noise(166)
	for kind := 1; kind <= kinds; kind++ {
		for _, m := range []api.Msg{{Kind: kind}, plain(kind), x.message(kind)} {
			add(m)
			for _, name := range numbersOf(kind) {
				for bit := range 48 {
					add(with(m, name, numberIn(m, name)^1<<bit))
				}
			}
			for i := range api.HeadBits {
				if has(kind, "Head") {
					h := m.Head
					h[i/8] ^= 1 << (i % 8)
					add(with(m, "Head", h))
				}
				if has(kind, "Cube") {
					for _, one := range []bool{false, true} {
						c, _ := cube.Fix(m.Cube, i, one)
						add(with(m, "Cube", c))
					}
					c, _ := cube.Loose(m.Cube, i)
					add(with(m, "Cube", c))
				}
			}
		}
	}
	if len(seen) < 6000 {
		t.Error("too few unlike messages:", len(seen))
	}
}
