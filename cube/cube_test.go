package cube

import (
	"math"
	"slices"
	"strings"
	"testing"

	"milepost/api"
	"milepost/head"
)

// The tests are named by the promises of shared/doc/02-cube.md. They reckon with a cube's letters, as P2.5 has them: apart from the package's own bytes.

var (
	noughts = api.Header{}
	ones    = api.Header{255, 255, 255, 255, 255, 255, 255, 255, 255, 255, 255, 255, 255}
	nothing = api.Cube{}
)

// noise is a row of numbers without a pattern, always the same one.
type noise uint64

func (n *noise) next() byte {
	*n ^= *n << 13
	*n ^= *n >> 7
	*n ^= *n << 17
	return byte(*n >> 32)
}

func (n *noise) header() api.Header {
	var h api.Header
	for i := range h {
		h[i] = n.next()
	}
	return h
}

func bit(h api.Header, i int) byte {
	return h[i/8] >> (7 - i%8) & 1
}

func letters(c api.Cube) string {
	var b strings.Builder
	for i := range api.HeadBits {
		if bit(c.Mask, i) == 0 {
			b.WriteByte('*')
		} else {
			b.WriteByte('0' + bit(c.Value, i))
		}
	}
	return b.String()
}

// right makes the right cube of some letters, the bits behind them being free.
func right(s string) api.Cube {
	var c api.Cube
	for i, r := range s {
		if r != '*' {
			c.Mask[i/8] |= 128 >> (i % 8)
		}
		if r == '1' {
			c.Value[i/8] |= 128 >> (i % 8)
		}
	}
	return c
}

// change is some letters with one of them another.
func change(s string, i int, letter string) string {
	return s[:i] + letter + s[i+1:]
}

// some answers cubes with few, half and nearly all bits fixed, most of them not right, and those at the edges.
func some(n int) []api.Cube {
	x := noise(88172645463325252)
	out := []api.Cube{{}, {Value: ones}, {Mask: ones}, {Value: ones, Mask: ones}, {Value: ones, Mask: api.Header{12: 1}}, {Value: noughts, Mask: api.Header{128}}}
	for range n {
		v, a, b, c := x.header(), x.header(), x.header(), x.header()
		few, many := a, a
		for i := range a {
			few[i] &= b[i] & c[i]
			many[i] |= b[i] | c[i]
		}
		out = append(out, api.Cube{Value: v, Mask: few}, api.Cube{Value: v, Mask: a}, api.Cube{Value: v, Mask: many})
	}
	return out
}

// near answers cubes that differ from c in some letters: so that the two often meet, and often one is within the other.
func near(x *noise, c api.Cube) []api.Cube {
	out := []api.Cube{c, right(letters(c))}
	for _, pick := range []string{"*", "01", "01*"} {
		for times := range 4 {
			s := letters(c)
			for range times*times + 1 {
				i := int(x.next()) % api.HeadBits
				k := int(x.next()) % len(pick)
				s = change(s, i, pick[k:k+1])
			}
			d := right(s)
			out = append(out, d)
			for i := range d.Value {
				d.Value[i] |= x.next() &^ d.Mask[i]
			}
			out = append(out, d)
		}
	}
	return out
}

// headers answers some that c has, and some that it hasn't for one bit.
func headers(x *noise, c api.Cube) []api.Header {
	var out []api.Header
	for _, fill := range []api.Header{noughts, ones, x.header(), x.header()} {
		var h api.Header
		for i := range h {
			h[i] = c.Value[i]&c.Mask[i] | fill[i]&^c.Mask[i]
		}
		out = append(out, h)
		for range 6 {
			out = append(out, head.Flip(h, int(x.next())%api.HeadBits))
		}
	}
	return out
}

// fits tells by letters whether a cube has a header.
func fits(s string, h api.Header) bool {
	for i := range api.HeadBits {
		if s[i] != '*' && s[i] != '0'+bit(h, i) {
			return false
		}
	}
	return true
}

func noBits() []int {
	return []int{-1, -8, -104, 104, 105, 111, 1 << 32, math.MinInt, math.MaxInt}
}

func TestP21AllAndOf(t *testing.T) {
	if All() != nothing || letters(All()) != strings.Repeat("*", 104) {
		t.Error("All:", All())
	}
	x := noise(1)
	for _, h := range []api.Header{noughts, ones, head.Make(1, 2, 3, 4, 5), x.header(), x.header()} {
		c := Of(h)
		if c.Value != h || c.Mask != ones {
			t.Errorf("Of(%v): %v", h, c)
		}
		if !Has(All(), h) || !Has(c, h) {
			t.Errorf("All, or Of(%v), hasn't that header", h)
		}
		for i := range api.HeadBits {
			if Has(c, head.Flip(h, i)) || !Has(All(), head.Flip(h, i)) {
				t.Errorf("with bit %d of %v turned", i, h)
			}
		}
	}
}

func TestP21RightAndCanon(t *testing.T) {
	for _, c := range some(100) {
		want := right(letters(c))
		if Right(c) != (c == want) || !Right(want) {
			t.Errorf("Right(%v): %v", c, Right(c))
		}
		if Canon(c) != want || Canon(want) != want {
			t.Errorf("Canon(%v): %v", c, Canon(c))
		}
		for i := range api.HeadBits {
			d := want
			d.Value = head.Flip(d.Value, i)
			if Right(d) != (letters(want)[i] != '*') {
				t.Errorf("Right(%v), bit %d", d, i)
			}
		}
	}
}

func TestP21Has(t *testing.T) {
	x := noise(2)
	for _, c := range some(100) {
		s := letters(c)
		for _, h := range headers(&x, c) {
			if Has(c, h) != fits(s, h) {
				t.Errorf("Has(%v, %v): %v", c, h, Has(c, h))
			}
		}
	}
	for i := range api.HeadBits { // a fixed bit counts wherever it stands
		c := right(change(letters(All()), i, "1"))
		if Has(c, noughts) || !Has(c, ones) || !Has(c, head.Flip(noughts, i)) || Has(c, head.Flip(ones, i)) {
			t.Errorf("Has of a cube with bit %d fixed alone", i)
		}
	}
}

func TestP21Free(t *testing.T) {
	if Free(All()) != 104 || Free(Of(noughts)) != 0 || Free(Of(ones)) != 0 {
		t.Error("Free:", Free(All()), Free(Of(noughts)), Free(Of(ones)))
	}
	for _, c := range some(100) {
		if want := strings.Count(letters(c), "*"); Free(c) != want {
			t.Errorf("Free(%v): %d, not %d", c, Free(c), want)
		}
	}
}

func TestP21Ends(t *testing.T) {
	x := noise(3)
	if least, greatest := Ends(All()); least != noughts || greatest != ones {
		t.Error("Ends(All):", least, greatest)
	}
	for _, c := range some(100) {
		s := letters(c)
		wantLeast := right(strings.ReplaceAll(s, "*", "0")).Value
		wantGreatest := right(strings.ReplaceAll(s, "*", "1")).Value
		least, greatest := Ends(c)
		if least != wantLeast || greatest != wantGreatest {
			t.Errorf("Ends(%v): %v, %v", c, least, greatest)
		}
		for _, h := range headers(&x, c) {
			if fits(s, h) && (head.Less(h, least) || head.Less(greatest, h)) {
				t.Errorf("Ends(%v): %v is beyond them", c, h)
			}
		}
	}
}

// meetOf reckons by letters what two cubes have together.
func meetOf(s string, r string) (string, bool) {
	out := []byte(s)
	for i := range out {
		switch {
		case s[i] == '*':
			out[i] = r[i]
		case r[i] != '*' && r[i] != s[i]:
			return "", false
		}
	}
	return string(out), true
}

func TestP22Meet(t *testing.T) {
	if c, ok := Meet(right("0*"), right("*1")); !ok || c != right("01") {
		t.Error("0* and *1:", c, ok)
	}
	if c, ok := Meet(right("0"), right("1")); ok || c != nothing {
		t.Error("0 and 1:", c, ok)
	}
	meets, misses := 0, 0
	eachPair(func(a, b api.Cube) {
		s, want := meetOf(letters(a), letters(b))
		c, ok := Meet(a, b)
		if ok != want || ok && c != right(s) || !ok && c != nothing {
			t.Errorf("Meet(%v, %v): %v, %v", a, b, c, ok)
		}
		if want {
			meets++
		} else {
			misses++
		}
	})
	if meets < 100 || misses < 100 {
		t.Error("the pairs are too much of one kind:", meets, misses)
	}
	for i := range api.HeadBits { // one bit is enough to part them, wherever it stands
		a, b := Of(noughts), Of(head.Flip(noughts, i))
		if c, ok := Meet(a, b); ok || c != nothing {
			t.Errorf("Meet, parted by bit %d: %v, %v", i, c, ok)
		}
	}
}

func TestP22Within(t *testing.T) {
	in, out := 0, 0
	eachPair(func(a, b api.Cube) {
		s, ok := meetOf(letters(a), letters(b))
		want := ok && s == letters(a)
		if Within(a, b) != want {
			t.Errorf("Within(%v, %v): %v", a, b, !want)
		}
		if want {
			in++
		} else {
			out++
		}
		if !Within(a, All()) || Within(All(), b) != (b.Mask == noughts) {
			t.Errorf("Within, of All and %v, %v", a, b)
		}
	})
	if in < 100 || out < 100 {
		t.Error("the pairs are too much of one kind:", in, out)
	}
	if Within(right("0"), right("1")) || Within(right("0"), right("01")) || !Within(right("01"), right("0")) || !Within(api.Cube{Value: ones}, All()) {
		t.Error("Within, by the front bits")
	}
}

// eachPair hands out pairs of cubes, those that lie apart and those that lie near to each other, either way round.
func eachPair(look func(a, b api.Cube)) {
	x := noise(4)
	list := some(12)
	for _, a := range list {
		for _, b := range append(near(&x, a), list...) {
			look(a, b)
			look(b, a)
		}
	}
}

func TestP23Fix(t *testing.T) {
	for _, c := range some(8) {
		for i := range api.HeadBits {
			nought, e := Fix(c, i, false)
			one, f := Fix(c, i, true)
			if e != api.OK || f != api.OK || nought != right(change(letters(c), i, "0")) || one != right(change(letters(c), i, "1")) {
				t.Errorf("Fix(%v, %d): %v, %d; %v, %d", c, i, nought, e, one, f)
			}
		}
		for _, i := range noBits() {
			for _, one := range []bool{false, true} {
				if d, e := Fix(c, i, one); d != nothing || e != api.ErrBit {
					t.Errorf("Fix(%v, %d, %v): %v, %d", c, i, one, d, e)
				}
			}
		}
	}
}

func TestP23Loose(t *testing.T) {
	for _, c := range some(8) {
		for i := range api.HeadBits {
			if d, e := Loose(c, i); e != api.OK || d != right(change(letters(c), i, "*")) {
				t.Errorf("Loose(%v, %d): %v, %d", c, i, d, e)
			}
		}
		for _, i := range noBits() {
			if d, e := Loose(c, i); d != nothing || e != api.ErrBit {
				t.Errorf("Loose(%v, %d): %v, %d", c, i, d, e)
			}
		}
	}
}

func TestP23Split(t *testing.T) {
	if a, b, e := Split(right("0*"), 0); a != nothing || b != nothing || e != api.ErrBit {
		t.Error("Split(0*, 0):", a, b, e)
	}
	if a, b, e := Split(right("0*"), 1); a != right("00") || b != right("01") || e != api.OK {
		t.Error("Split(0*, 1):", a, b, e)
	}
	for _, c := range some(8) {
		s := letters(c)
		for i := range api.HeadBits {
			a, b, e := Split(c, i)
			if s[i] == '*' && (a != right(change(s, i, "0")) || b != right(change(s, i, "1")) || e != api.OK) {
				t.Errorf("Split(%v, %d): %v, %v, %d", c, i, a, b, e)
			}
			if s[i] != '*' && (a != nothing || b != nothing || e != api.ErrBit) {
				t.Errorf("Split(%v, %d), which is fixed: %v, %v, %d", c, i, a, b, e)
			}
		}
		for _, i := range noBits() {
			if a, b, e := Split(c, i); a != nothing || b != nothing || e != api.ErrBit {
				t.Errorf("Split(%v, %d): %v, %v, %d", c, i, a, b, e)
			}
		}
	}
}

// minusOf reckons by letters, as P2.4 says it.
func minusOf(s string, r string) []api.Cube {
	if _, ok := meetOf(s, r); !ok {
		return []api.Cube{right(s)}
	}
	var out []api.Cube
	for i := range api.HeadBits {
		if s[i] == '*' && r[i] != '*' {
			other := string('0' + '1' - r[i])
			out = append(out, right(change(s, i, other)))
			s = change(s, i, r[i:i+1])
		}
	}
	return out
}

func TestP24Minus(t *testing.T) {
	rows := []struct {
		a, b string
		want []string
	}{
		{"*", "01", []string{"1*", "00"}},
		{"*", "*1", []string{"*0"}},
		{"0", "1", []string{"0"}},
		{"0", "01", []string{"00"}},
		{"01", "0", nil},
		{"0**1", "0*10", []string{"0**1"}},
		{"0**1", "*01*", []string{"01*1", "0001"}},
		{"*", "*", nil},
	}
	for _, r := range rows {
		var want []api.Cube
		for _, s := range r.want {
			want = append(want, right(s))
		}
		if got := Minus(right(r.a), right(r.b)); !slices.Equal(got, want) {
			t.Errorf("Minus(%s, %s): %v", r.a, r.b, got)
		}
	}
	eachPair(func(a, b api.Cube) {
		if got, want := Minus(a, b), minusOf(letters(a), letters(b)); !slices.Equal(got, want) {
			t.Errorf("Minus(%v, %v): %v", a, b, got)
		}
	})
}

func TestP24MinusOfAll(t *testing.T) {
	for _, c := range some(20) {
		if got := Minus(c, c); len(got) != 0 {
			t.Errorf("%v less itself: %v", c, got)
		}
		if got := Minus(c, Canon(c)); len(got) != 0 {
			t.Errorf("%v less its right one: %v", c, got)
		}
		if got := Minus(c, All()); len(got) != 0 {
			t.Errorf("%v less All: %v", c, got)
		}
		if got := Minus(All(), c); len(got) != api.HeadBits-Free(c) {
			t.Errorf("All less %v: %d cubes", c, len(got))
		}
	}
}

// What the cubes have is held against the headers themselves.
func TestP24MinusHeaders(t *testing.T) {
	x := noise(5)
	eachPair(func(a, b api.Cube) {
		var pieces []string
		for _, p := range Minus(a, b) {
			pieces = append(pieces, letters(p))
		}
		s, r := letters(a), letters(b)
		for _, h := range append(headers(&x, a), headers(&x, b)...) {
			have, want := 0, 0
			for _, p := range pieces {
				if fits(p, h) {
					have++
				}
			}
			if fits(s, h) && !fits(r, h) {
				want = 1
			}
			if have != want {
				t.Errorf("Minus(%v, %v): %d cubes have %v, not %d", a, b, have, h, want)
			}
		}
	})
}

func TestP24MinusShares(t *testing.T) {
	a, b := api.Cube{Value: ones}, right("01")
	first, second := Minus(a, b), Minus(a, b)
	first[0] = Of(ones)
	if a != (api.Cube{Value: ones}) || b != right("01") || second[0] != right("1") {
		t.Error("an answer shares memory:", a, b, second)
	}
}
