package span

import (
	"math"
	"slices"
	"strings"
	"testing"

	"milepost/api"
)

// The tests are named by the promises of shared/doc/04-span.md.

func TestP41Range(t *testing.T) {
	rows := []struct {
		low, high int
		want      []api.Piece
	}{
		{1, 6, []api.Piece{{Value: 1, Bits: 16}, {Value: 2, Bits: 15}, {Value: 4, Bits: 15}, {Value: 6, Bits: 16}}},
		{0, 65535, []api.Piece{{Value: 0, Bits: 0}}},
		{80, 80, []api.Piece{{Value: 80, Bits: 16}}},
		{0, 0, []api.Piece{{Value: 0, Bits: 16}}},
		{65535, 65535, []api.Piece{{Value: 65535, Bits: 16}}},
		{0, 1, []api.Piece{{Value: 0, Bits: 15}}},
		{0, 2, []api.Piece{{Value: 0, Bits: 15}, {Value: 2, Bits: 16}}},
		{1, 2, []api.Piece{{Value: 1, Bits: 16}, {Value: 2, Bits: 16}}},
		{0, 32767, []api.Piece{{Value: 0, Bits: 1}}},
		{32768, 65535, []api.Piece{{Value: 32768, Bits: 1}}},
		{32767, 32768, []api.Piece{{Value: 32767, Bits: 16}, {Value: 32768, Bits: 16}}},
		{0, 32768, []api.Piece{{Value: 0, Bits: 1}, {Value: 32768, Bits: 16}}},
		{65534, 65535, []api.Piece{{Value: 65534, Bits: 15}}},
		{65533, 65535, []api.Piece{{Value: 65533, Bits: 16}, {Value: 65534, Bits: 15}}},
		{1024, 2047, []api.Piece{{Value: 1024, Bits: 6}}},
	}
	for _, r := range rows {
		if got, e := Range(r.low, r.high); e != api.OK || !slices.Equal(got, r.want) {
			t.Errorf("Range(%d, %d): %v, %d", r.low, r.high, got, e)
		}
	}
	if l, e := Range(1, 65534); len(l) != 30 || e != api.OK {
		t.Error("Range(1, 65534):", len(l), e)
	}
}

func checkRange(t *testing.T, low int, high int) {
	t.Helper()
	want := parts(low, high, 0, 0)
	if got, e := Range(low, high); e != api.OK || !slices.Equal(got, want) {
		t.Errorf("Range(%d, %d): %v, %d, not %v", low, high, got, e, want)
	}
}

func TestP41RangeByHalves(t *testing.T) {
	for _, low := range edges() {
		for _, high := range edges() {
			if low <= high {
				checkRange(t, low, high)
			}
		}
	}
	for n := range 65536 {
		checkRange(t, n, n)
		checkRange(t, 0, n)
		checkRange(t, n, 65535)
	}
	for low := range 64 {
		for high := low; high < 130; high++ {
			checkRange(t, low, high)
		}
	}
}

// The pieces are gone through number by number: they rise, and have each number once and no other one.
func TestP41RangeByNumbers(t *testing.T) {
	x := noise(41)
	for range 300 {
		low, high := x.below(65536), x.below(65536)
		low, high = min(low, high), max(low, high)
		l, e := Range(low, high)
		next := low
		for _, p := range l {
			many := 1 << (16 - p.Bits)
			if p.Value != next || p.Bits < 0 || p.Bits > 16 || p.Value%many != 0 {
				t.Errorf("Range(%d, %d): %v where %d begins", low, high, p, next)
			}
			next = p.Value + many
		}
		if next != high+1 || e != api.OK {
			t.Errorf("Range(%d, %d) ends ahead of %d, %d", low, high, next, e)
		}
	}
}

// How few cubes can be is found out by trying all ways, of numbers so small that it can be done.
func TestP41RangeAsFewAsCanBe(t *testing.T) {
	for low := range 40 {
		fewest := []int{0} // by how many numbers from low on are in
		for n := low; n < 80; n++ {
			best := math.MaxInt
			for size := 1; size <= n-low+1; size *= 2 {
				if from := n - size + 1; from%size == 0 {
					best = min(best, fewest[from-low]+1)
				}
			}
			fewest = append(fewest, best)
			if l, e := Range(low, n); len(l) != best || e != api.OK {
				t.Errorf("Range(%d, %d): %d pieces, %d, not %d", low, n, len(l), e, best)
			}
		}
	}
}

func TestP41RangeErr(t *testing.T) {
	for _, r := range noRanges() {
		if l, e := Range(r[0], r[1]); len(l) != 0 || e != api.ErrRange {
			t.Errorf("Range(%d, %d): %v, %d", r[0], r[1], l, e)
		}
	}
}

func TestP41RangeShares(t *testing.T) {
	first, _ := Range(1, 6)
	second, _ := Range(1, 6)
	first = first[:cap(first)]
	for i := range first {
		first[i] = api.Piece{Value: 9, Bits: 9}
	}
	if third, _ := Range(1, 6); second[0] != (api.Piece{Value: 1, Bits: 16}) || !slices.Equal(second, third) {
		t.Error("an answer shares memory:", second, third)
	}
}

// portsOf reckons by letters, a piece's bits being those of its number in 16 letters.
func portsOf(ahead int, low int, high int) []api.Cube {
	var out []api.Cube
	for _, p := range parts(low, high, 0, 0) {
		out = append(out, starts(ahead, digits(uint64(p.Value), 16)[:p.Bits]))
	}
	return out
}

func checkPorts(t *testing.T, low int, high int) {
	t.Helper()
	if l, e := Ports(api.Sport, low, high); e != api.OK || !slices.Equal(l, portsOf(64, low, high)) {
		t.Errorf("Ports(Sport, %d, %d): %v, %d", low, high, l, e)
	}
	if l, e := Ports(api.Dport, low, high); e != api.OK || !slices.Equal(l, portsOf(80, low, high)) {
		t.Errorf("Ports(Dport, %d, %d): %v, %d", low, high, l, e)
	}
}

func TestP42Ports(t *testing.T) {
	want := list(strings.Repeat("*", 80) + "0000000001010000")
	if l, e := Ports(api.Dport, 80, 80); e != api.OK || !slices.Equal(l, want) {
		t.Error("Ports(Dport, 80, 80):", l, e)
	}
	if l, e := Ports(api.Sport, 0, 65535); e != api.OK || !slices.Equal(l, []api.Cube{nothing}) {
		t.Error("Ports(Sport, 0, 65535):", l, e)
	}
	checkPorts(t, 1, 6)
	checkPorts(t, 80, 443)
	for _, low := range edges() {
		checkPorts(t, low, low)
		checkPorts(t, 0, low)
		checkPorts(t, low, 65535)
	}
	x := noise(42)
	for range 200 {
		a, b := x.below(65536), x.below(65536)
		checkPorts(t, min(a, b), max(a, b))
	}
}

// Each number of the field stands in as many cubes as the range has it: one, or none; the other fields say nothing.
func TestP42PortsByNumbers(t *testing.T) {
	for _, r := range [][2]int{{0, 0}, {1, 6}, {80, 443}, {1000, 60000}, {0, 65534}, {65535, 65535}} {
		for _, at := range []int{64, 80} {
			l, _ := Ports(at/16-2, r[0], r[1])
			for n := range 65536 {
				have, want := 0, 0
				for _, c := range l {
					v := int(c.Value[at/8])<<8 | int(c.Value[at/8+1])
					m := int(c.Mask[at/8])<<8 | int(c.Mask[at/8+1])
					if (v^n)&m == 0 {
						have++
					}
				}
				if r[0] <= n && n <= r[1] {
					want = 1
				}
				if have != want {
					t.Fatalf("field at bit %d, %v: %d cubes have %d", at, r, have, n)
				}
			}
			for _, c := range l {
				c.Mask[at/8], c.Mask[at/8+1] = 0, 0
				if c.Mask != noughts {
					t.Errorf("field at bit %d, %v: %v", at, r, c)
				}
			}
		}
	}
}

func TestP42PortsErr(t *testing.T) {
	for _, f := range noFields(api.Sport, api.Dport) {
		for _, r := range append(noRanges(), [2]int{80, 80}, [2]int{0, 65535}) {
			if l, e := Ports(f, r[0], r[1]); len(l) != 0 || e != api.ErrArg {
				t.Errorf("Ports(%d, %d, %d): %v, %d", f, r[0], r[1], l, e)
			}
		}
	}
	for _, f := range []int{api.Sport, api.Dport} {
		for _, r := range noRanges() {
			if l, e := Ports(f, r[0], r[1]); len(l) != 0 || e != api.ErrRange {
				t.Errorf("Ports(%d, %d, %d): %v, %d", f, r[0], r[1], l, e)
			}
		}
	}
}

func TestP42Prefix(t *testing.T) {
	x := noise(43)
	words := []uint32{0, 1, 0x0a000001, 0x80000000, 0x7fffffff, 0xaaaaaaaa, 0x55555555, math.MaxUint32}
	for range 50 {
		words = append(words, x.word())
	}
	for _, w := range words {
		for bits := range 33 {
			field := digits(uint64(w), 32)[:bits]
			if c, e := Prefix(api.Src, w, bits); c != starts(0, field) || e != api.OK {
				t.Errorf("Prefix(Src, %x, %d): %v, %d", w, bits, c, e)
			}
			if c, e := Prefix(api.Dst, w, bits); c != starts(32, field) || e != api.OK {
				t.Errorf("Prefix(Dst, %x, %d): %v, %d", w, bits, c, e)
			}
		}
	}
}

// The bits of the address behind the first so many say nothing.
func TestP42PrefixBehind(t *testing.T) {
	a, _ := Prefix(api.Src, 0x0a000001, 8)
	if b, e := Prefix(api.Src, 0x0a000000, 8); a != b || a != right("00001010") || e != api.OK {
		t.Error("10.0.0.1/8:", a, b, e)
	}
	for _, f := range []int{api.Src, api.Dst} {
		for bits := range 33 {
			want, _ := Prefix(f, 0x0a000000, bits)
			for i := range 32 {
				c, e := Prefix(f, 0x0a000000^1<<(31-i), bits)
				if (c == want) != (i >= bits) || e != api.OK {
					t.Errorf("Prefix(%d, 10.0.0.0, %d), bit %d turned: %v, %d", f, bits, i, c, e)
				}
			}
		}
	}
	if c, e := Prefix(api.Dst, math.MaxUint32, 0); c != nothing || e != api.OK {
		t.Error("no bits:", c, e)
	}
}

func TestP42PrefixErr(t *testing.T) {
	no := []int{-1, 33, -8, 34, 40, 104, 1 << 32, 1<<32 + 8, math.MinInt, math.MaxInt}
	for _, w := range []uint32{0, 0x0a000001, math.MaxUint32} {
		for _, f := range noFields(api.Src, api.Dst) {
			for _, bits := range append([]int{0, 8, 32}, no...) {
				if c, e := Prefix(f, w, bits); c != nothing || e != api.ErrArg {
					t.Errorf("Prefix(%d, %x, %d): %v, %d", f, w, bits, c, e)
				}
			}
		}
		for _, f := range []int{api.Src, api.Dst} {
			for _, bits := range no {
				if c, e := Prefix(f, w, bits); c != nothing || e != api.ErrArg {
					t.Errorf("Prefix(%d, %x, %d): %v, %d", f, w, bits, c, e)
				}
			}
		}
	}
}

func TestP42Proto(t *testing.T) {
	for n := range 256 {
		if c, e := Proto(n); c != starts(96, digits(uint64(n), 8)) || e != api.OK {
			t.Errorf("Proto(%d): %v, %d", n, c, e)
		}
	}
	for _, n := range []int{-1, 256, -256, 257, 512, 1 << 32, 1<<32 + 6, math.MinInt, math.MaxInt} {
		if c, e := Proto(n); c != nothing || e != api.ErrRange {
			t.Errorf("Proto(%d): %v, %d", n, c, e)
		}
	}
}

func TestP43Cross(t *testing.T) {
	rows := []struct {
		a, b, want []string
	}{
		{nil, nil, nil},
		{nil, []string{"*"}, nil},
		{[]string{"*"}, nil, nil},
		{[]string{"*"}, []string{"*"}, []string{"*"}},
		{[]string{"0"}, []string{"1"}, nil},
		{[]string{"0*"}, []string{"*1"}, []string{"01"}},
		{[]string{"0", "1"}, []string{"*0", "*1"}, []string{"00", "01", "10", "11"}},
		{[]string{"*0", "*1"}, []string{"0", "1"}, []string{"00", "10", "01", "11"}},
		{[]string{"1", "0"}, []string{"01", "11", "*", "00"}, []string{"11", "1", "01", "0", "00"}},
		{[]string{"0", "0"}, []string{"*1", "*1"}, []string{"01", "01", "01", "01"}},
		{[]string{"00", "01"}, []string{"1", "10"}, nil},
		{[]string{"00", "11"}, []string{"1", "0"}, []string{"00", "11"}},
	}
	for _, r := range rows {
		for _, a := range [][]api.Cube{list(r.a...), wrongs(r.a...)} {
			for _, b := range [][]api.Cube{list(r.b...), wrongs(r.b...)} {
				for _, most := range []int{len(r.want), len(r.want) + 1, 2048, 2049, math.MaxInt} {
					if l, e := Cross(a, b, most); e != api.OK || !slices.Equal(l, list(r.want...)) {
						t.Errorf("Cross(%v, %v, %d): %v, %d", r.a, r.b, most, l, e)
					}
				}
				if l, e := Cross(a, b, len(r.want)-1); len(r.want) > 0 && (len(l) != 0 || e != api.ErrMany) {
					t.Errorf("Cross(%v, %v, %d): %v, %d", r.a, r.b, len(r.want)-1, l, e)
				}
			}
		}
	}
}

// few makes the letters of a cube with some bits at the edges of bytes and fields fixed.
func few(x *noise) string {
	s := []byte(strings.Repeat("*", api.HeadBits))
	for _, i := range []int{0, 7, 8, 31, 64, 79, 95, 103} {
		s[i] = "01**"[x.below(4)]
	}
	return string(s)
}

func TestP43CrossByLetters(t *testing.T) {
	x := noise(44)
	hits, misses := 0, 0
	for range 200 {
		var a, b, want []string
		for range x.below(6) {
			a = append(a, few(&x))
		}
		for range x.below(6) {
			b = append(b, few(&x))
		}
		for _, s := range a {
			for _, r := range b {
				if m, ok := both(s, r); ok {
					want = append(want, m)
					hits++
				} else {
					misses++
				}
			}
		}
		l, e := Cross(wrongs(a...), wrongs(b...), len(want))
		if e != api.OK || !slices.Equal(l, list(want...)) {
			t.Errorf("Cross(%v, %v): %v, %d", a, b, l, e)
		}
		if l, e := Cross(wrongs(a...), list(b...), len(want)-1); len(want) > 0 && (len(l) != 0 || e != api.ErrMany) {
			t.Errorf("Cross(%v, %v), one fewer: %v, %d", a, b, l, e)
		}
	}
	if hits < 200 || misses < 200 {
		t.Error("the pairs are too much of one kind:", hits, misses)
	}
}

func TestP43CrossBelowNought(t *testing.T) {
	for _, most := range []int{0, -1, -2048, math.MinInt} {
		if l, e := Cross(list("*"), list("*"), most); len(l) != 0 || e != api.ErrMany {
			t.Errorf("Cross of one and one, %d: %v, %d", most, l, e)
		}
		// Nothing is not more than nothing.
		for _, p := range [][2][]api.Cube{{nil, nil}, {list("*"), nil}, {nil, list("*")}, {list("0"), list("1", "10")}} {
			if l, e := Cross(p[0], p[1], most); len(l) != 0 || e != api.OK {
				t.Errorf("Cross(%v, %v, %d): %v, %d", p[0], p[1], most, l, e)
			}
		}
	}
}

// counted makes as many cubes as it is told, of the numbers of a field's first bits; all of them lie apart.
func counted(ahead int, n int) []api.Cube {
	var out []api.Cube
	for i := range n {
		out = append(out, starts(ahead, digits(uint64(i), 12)))
	}
	return out
}

func TestP43CrossAboveMaxExpand(t *testing.T) {
	all, more := counted(0, 2048), counted(0, 2049)
	for _, most := range []int{2048, 2049, 4096, 1 << 32, 1<<32 + 1, math.MaxInt} {
		for _, p := range [][2][]api.Cube{{all, list("*")}, {list("*"), all}, {counted(0, 64), counted(64, 32)}} {
			if l, e := Cross(p[0], p[1], most); len(l) != 2048 || e != api.OK {
				t.Errorf("2048 cubes, %d: %d, %d", most, len(l), e)
			}
		}
		for _, p := range [][2][]api.Cube{{more, list("*")}, {list("*"), more}, {counted(0, 683), counted(64, 3)}} {
			if l, e := Cross(p[0], p[1], most); len(l) != 0 || e != api.ErrMany {
				t.Errorf("2049 cubes, %d: %d, %d", most, len(l), e)
			}
		}
	}
	if l, e := Cross(all, list("*"), 2047); len(l) != 0 || e != api.ErrMany {
		t.Error("2048 cubes, 2047:", len(l), e)
	}
	// Only those that have a header together are counted.
	if l, e := Cross(more, all, 2048); len(l) != 2048 || e != api.OK {
		t.Error("2048 of each with one:", len(l), e)
	}
}

// What is handed in stays as it is, its spare room too; what is answered is new memory.
func TestP43CrossShares(t *testing.T) {
	room := append(wrongs("0", "*"), list("11", "10")...)
	before := slices.Clone(room)
	first, _ := Cross(room[:2], room[1:2], 9)
	second, _ := Cross(room[:2], room[1:2], 9)
	first = first[:cap(first)]
	for i := range first {
		first[i] = api.Cube{Value: ones, Mask: ones}
	}
	if !slices.Equal(second, list("0", "*")) || !slices.Equal(room, before) {
		t.Error("an answer shares memory:", second, room)
	}
}
