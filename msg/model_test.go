package msg

import (
	"bytes"
	"encoding/hex"
	"fmt"
	"math"
	"reflect"
	"strconv"
	"strings"
	"testing"

	"milepost/api"
	"milepost/cube"
)

// What the tests reckon with: the chapter's table as it is written there, fields by their names, bytes as digits of base 16; apart from the package's own list of fields and from wire.

func table() map[int]string {
	return map[int]string{
		1: "Inc Epoch Floor At Of One Two Cube",
		2: "Inc Epoch Floor At Of Order Action Cube",
		3: "Inc Sent Use Floor",
		4: "Inc Epoch At",
		5: "Inc Use Epoch At Load",
		6: "Inc Seq Epoch Head",
		7: "Inc Seq Epoch Action Cube",
	}
}

const kinds = 7

const most = 281474976710655

// own is the names of a kind's fields, in order.
func own(kind int) []string {
	return strings.Fields(table()[kind])
}

// numbersOf is those of a kind's fields that are numbers.
func numbersOf(kind int) []string {
	var out []string
	for _, name := range own(kind) {
		if name != "Cube" && name != "Head" {
			out = append(out, name)
		}
	}
	return out
}

func has(kind int, name string) bool {
	for _, x := range own(kind) {
		if x == name {
			return true
		}
	}
	return false
}

// others is the names of all fields of a message that aren't a kind's own.
func others(kind int) []string {
	var out []string
	for f := range reflect.TypeFor[api.Msg]().Fields() {
		if f.Name != "Kind" && !has(kind, f.Name) {
			out = append(out, f.Name)
		}
	}
	return out
}

// with is a message with a field changed.
func with(m api.Msg, name string, to any) api.Msg {
	reflect.ValueOf(&m).Elem().FieldByName(name).Set(reflect.ValueOf(to))
	return m
}

func numberIn(m api.Msg, name string) int {
	return int(reflect.ValueOf(m).FieldByName(name).Int())
}

// noise is a row of numbers without a pattern, always the same one.
type noise uint64

func (n *noise) next() uint64 {
	*n ^= *n << 13
	*n ^= *n >> 7
	*n ^= *n << 17
	return uint64(*n >> 8)
}

func (n *noise) number() int {
	return int(n.next() % (most + 1) >> (n.next() % 48))
}

func (n *noise) header() api.Header {
	var h api.Header
	for i := range h {
		h[i] = byte(n.next())
	}
	return h
}

// cube is one that is right, by its letters.
func (n *noise) cube() api.Cube {
	var s strings.Builder
	for range api.HeadBits {
		s.WriteByte("01*"[n.next()%3])
	}
	c, _ := cube.Parse(s.String())
	return c
}

// message is one of a kind that may be, with all its own fields other than zero.
func (n *noise) message(kind int) api.Msg {
	m := api.Msg{Kind: kind}
	for _, name := range own(kind) {
		switch name {
		case "Cube":
			m.Cube = n.cube()
		case "Head":
			m.Head = n.header()
		default:
			m = with(m, name, max(1, n.number()))
		}
	}
	return m
}

// plain is a message of a kind whose bytes are all unlike, the least number being in the first field.
func plain(kind int) api.Msg {
	m := api.Msg{Kind: kind}
	for i, name := range numbersOf(kind) {
		m = with(m, name, 0x010203040506+i*0x101010101010)
	}
	for i := range api.HeadBytes {
		if has(kind, "Head") {
			m.Head[i] = byte(0xf0 - i)
		}
		if has(kind, "Cube") {
			m.Cube.Value[i], m.Cube.Mask[i] = byte(0x81+i), byte(0xe1+i)&^0x10|byte(0x81+i)
		}
	}
	return m
}

// bitsRight tells by a cube's bits, one by one, whether it is right.
func bitsRight(c api.Cube) bool {
	value, mask := letters(c.Value), letters(c.Mask)
	for i := range value {
		if value[i] == '1' && mask[i] == '0' {
			return false
		}
	}
	return true
}

func letters(h api.Header) string {
	var out strings.Builder
	for _, x := range h {
		fmt.Fprintf(&out, "%08b", x)
	}
	return out.String()
}

// mayBe tells whether a message may be, field by field.
func mayBe(m api.Msg) bool {
	if m.Kind < 1 || m.Kind > kinds {
		return false
	}
	for f, x := range reflect.ValueOf(m).Fields() {
		switch {
		case f.Name == "Kind":
		case !has(m.Kind, f.Name):
			if !x.IsZero() {
				return false
			}
		case f.Name == "Cube":
			if !bitsRight(m.Cube) {
				return false
			}
		case f.Name == "Head":
		case x.Int() < 0 || x.Int() > most:
			return false
		}
	}
	return true
}

// written is the bytes of a message that may be, by digits.
func written(m api.Msg) []byte {
	var s string
	for _, name := range own(m.Kind) {
		switch name {
		case "Cube":
			s += fmt.Sprintf("%x%x", m.Cube.Value[:], m.Cube.Mask[:])
		case "Head":
			s += fmt.Sprintf("%x", m.Head[:])
		default:
			s += fmt.Sprintf("%012x", numberIn(m, name))
		}
	}
	return raw(fmt.Sprintf("%04x%02x", len(s)/2, m.Kind) + s)
}

// raw is bytes by their digits of base 16, spaces being passed over.
func raw(s string) []byte {
	b, err := hex.DecodeString(strings.ReplaceAll(s, " ", ""))
	if err != nil {
		panic(err)
	}
	return b
}

// read is the message whose bytes these are, by digits: what written makes of what was guessed must be these very bytes.
func read(b []byte) (api.Msg, bool) {
	if len(b) < 3 || len(own(int(b[2]))) == 0 {
		return api.Msg{}, false
	}
	m := api.Msg{Kind: int(b[2])}
	// Where digits are missing, noughts stand in for them.
	s := fmt.Sprintf("%x", b[3:]) + strings.Repeat("0", 200)
	take := func(size int) string {
		out := s[:2*size]
		s = s[2*size:]
		return out
	}
	for _, name := range own(m.Kind) {
		switch name {
		case "Cube":
			m.Cube = api.Cube{Value: api.Header(raw(take(13))), Mask: api.Header(raw(take(13)))}
		case "Head":
			m.Head = api.Header(raw(take(13)))
		default:
			n, _ := strconv.ParseInt(take(6), 16, 64)
			m = with(m, name, int(n))
		}
	}
	if !mayBe(m) || !bytes.Equal(written(m), b) {
		return api.Msg{}, false
	}
	return m, true
}

// frame is a kind and a body with their length ahead.
func frame(kind int, body []byte) []byte {
	return append([]byte{byte(len(body) >> 8), byte(len(body)), byte(kind)}, body...)
}

// beyond is numbers that no message has.
func beyond() []int {
	return []int{-1, -2, -most, math.MinInt32, math.MinInt, math.MinInt + 1, most + 1, most + 2, 1 << 49, 1<<56 + 1, 1 << 62, math.MaxInt - 1, math.MaxInt}
}

// noKinds is kinds that aren't, those among them that are one in their last byte.
func noKinds() []int {
	out := []int{0, -1, -2, -4, -7, -8, math.MinInt, math.MinInt + 4, 8, 9, 10, 255, math.MaxInt, math.MaxInt - 3}
	for kind := range kinds + 1 {
		out = append(out, kind+256, kind-256, kind+1<<16, kind+1<<32, kind-1<<32)
	}
	return out
}

// may holds all calls against a message that may be and its bytes.
func may(t *testing.T, m api.Msg, want []byte) {
	t.Helper()
	if !Right(m) {
		t.Errorf("Right(%+v): false", m)
	}
	if b, e := Encode(m); !bytes.Equal(b, want) || e != api.OK {
		t.Errorf("Encode(%+v): %x, %d, not %x", m, b, e, want)
	}
	if got, e := Decode(want); got != m || e != api.OK {
		t.Errorf("Decode(%x): %+v, %d, not %+v", want, got, e, m)
	}
}

// mayNot holds the calls against a message that may not be.
func mayNot(t *testing.T, m api.Msg) {
	t.Helper()
	if Right(m) {
		t.Errorf("Right(%+v): true", m)
	}
	if b, e := Encode(m); len(b) != 0 || e != api.ErrForm {
		t.Errorf("Encode(%+v): %x, %d", m, b, e)
	}
}

// says holds Decode against bytes, whatever they are; it answers whether they are a message's.
func says(t *testing.T, b []byte) bool {
	t.Helper()
	want, ok := read(b)
	wantErr := api.OK
	if !ok {
		wantErr = api.ErrForm
	}
	if m, e := Decode(b); m != want || e != wantErr {
		t.Errorf("Decode(%x): %+v, %d, not %+v, %d", b, m, e, want, wantErr)
	}
	return ok
}

// saysNothing holds Decode against bytes that are no message's.
func saysNothing(t *testing.T, b []byte) {
	t.Helper()
	if m, e := Decode(b); m != (api.Msg{}) || e != api.ErrForm {
		t.Errorf("Decode(%x): %+v, %d", b, m, e)
	}
}
