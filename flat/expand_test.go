package flat

import (
	"math"
	"slices"
	"strings"
	"testing"

	"milepost/api"
	"milepost/cube"
	"milepost/sense"
)

// The tests are named by the promises of shared/doc/08-flat.md.

// atDport are the letters of the headers whose Dport begins so.
func atDport(s string) string {
	return strings.Repeat("*", 80) + s
}

func TestP81Example(t *testing.T) {
	l, _, _ := sense.Read("2 dport 1-2 -> port 1\n5 dport 1 -> port 2\ndefault -> drop")
	expands(t, l, []api.Rule{
		{Order: 0, Cube: right(atDport("0000000000000001")), Action: 2},
		{Order: 1, Cube: right(atDport("0000000000000001")), Action: 1},
		{Order: 2, Cube: right(atDport("0000000000000010")), Action: 1},
		{Order: 3, Cube: api.Cube{}, Action: 0},
	})
	expands(t, []api.Entry{{SLow: 5, SHigh: 4, DHigh: 65535, Proto: -1}}, nil)
}

func TestP81NoEntries(t *testing.T) {
	for _, l := range [][]api.Entry{nil, {}} {
		for _, most := range []int{math.MinInt, -1, 0, 1, 2048, 2049, math.MaxInt} {
			if got, e := Expand(l, most); len(got) != 0 || e != api.OK {
				t.Errorf("Expand(%v, %d): %v, %d", l, most, got, e)
			}
		}
	}
}

// inOrder holds Expand against rules of all headers, by their actions.
func inOrder(t *testing.T, l []api.Entry, want ...int) {
	t.Helper()
	var all []api.Rule
	for i, a := range want {
		all = append(all, api.Rule{Order: i, Action: a})
	}
	expands(t, l, all)
}

func TestP81Defaults(t *testing.T) {
	inOrder(t, []api.Entry{rest(0, 3)}, 3)
	inOrder(t, []api.Entry{rest(0, 3), rest(0, 2), rest(0, 9)}, 3, 2, 9)
	// Their Prio says nothing, nor does any other field.
	inOrder(t, []api.Entry{rest(1, 3), rest(9, 2), rest(-4, 9), rest(9, 1)}, 3, 2, 9, 1)
	inOrder(t, []api.Entry{{Default: true, Src: 9, SrcBits: 32, Dst: 9, DstBits: 32, SLow: 9, SHigh: 8, DLow: -1, DHigh: 70000, Proto: 256, Action: 4}}, 4)
	// They stand behind all others, wherever they are in the list.
	inOrder(t, []api.Entry{rest(0, 3), plain(0, 1)}, 1, 3)
	inOrder(t, []api.Entry{plain(0, 1), rest(0, 3)}, 1, 3)
	inOrder(t, []api.Entry{rest(9, 3), plain(0, 1), rest(8, 4), plain(1, 2), rest(10, 5)}, 2, 1, 3, 4, 5)
	inOrder(t, []api.Entry{rest(math.MaxInt, 3), plain(math.MinInt, 1)}, 1, 3)
	inOrder(t, []api.Entry{rest(math.MaxInt, 3), plain(-1, 1), rest(0, 4)}, 1, 3, 4)
}

func TestP81Rows(t *testing.T) {
	inOrder(t, []api.Entry{plain(5, 1), plain(5, 2), plain(5, 3)}, 1, 2, 3)
	inOrder(t, []api.Entry{plain(1, 1), plain(2, 2), plain(3, 3)}, 3, 2, 1)
	inOrder(t, []api.Entry{plain(3, 1), plain(2, 2), plain(1, 3)}, 1, 2, 3)
	inOrder(t, []api.Entry{plain(1, 1), plain(2, 2), plain(1, 3), plain(2, 4), plain(1, 5)}, 2, 4, 1, 3, 5)
	inOrder(t, []api.Entry{plain(-2, 1), plain(-1, 2), plain(0, 3), plain(-2, 4), plain(-1, 5)}, 3, 2, 5, 1, 4)
	// Two numbers so far from each other that their difference goes round.
	inOrder(t, []api.Entry{plain(math.MinInt, 1), plain(math.MaxInt, 2), plain(0, 3), plain(-2, 4), plain(math.MaxInt, 5), plain(math.MinInt, 6)}, 2, 5, 3, 4, 1, 6)
	inOrder(t, []api.Entry{plain(0, 1), plain(1<<32, 2), plain(65536, 3)}, 2, 3, 1)
}

// Of one Prio the list's order stays, in a list of any length.
func TestP81RowsOfMany(t *testing.T) {
	n := noise(81)
	var l []api.Entry
	for i := range 1000 {
		l = append(l, plain(n.below(3)-1, i))
	}
	expands(t, l, expandOf(l))
	var same []api.Entry
	for i := range 2048 {
		same = append(same, plain(-7, i))
	}
	got, e := Expand(same, 2048)
	for i, x := range got {
		if x != (api.Rule{Order: i, Action: i}) {
			t.Fatalf("rule %d: %v", i, x)
		}
	}
	if len(got) != 2048 || e != api.OK {
		t.Error(len(got), e)
	}
}

// What an action is says nothing here: it is told as it is.
func TestP81Actions(t *testing.T) {
	for _, a := range []int{0, 1, 99, 100, -1, math.MinInt, math.MaxInt} {
		inOrder(t, []api.Entry{plain(1, a), rest(0, a)}, a, a)
	}
}

func TestP81Prefixes(t *testing.T) {
	for _, a := range []uint32{0, 1, 0x0a000001, 0x80000000, 0x55555555, math.MaxUint32} {
		for _, many := range []int{math.MinInt, -1 << 32, -32, -1, 0, 1, 8, 31, 32, 33, 40, 64, 1 << 32, math.MaxInt} {
			src := one(func(x *api.Entry) { x.Src, x.SrcBits = a, many })
			dst := one(func(x *api.Entry) { x.Dst, x.DstBits = a, many })
			front := address(a, many)
			expands(t, []api.Entry{src}, []api.Rule{{Cube: right(front), Action: 7}})
			expands(t, []api.Entry{dst}, []api.Rule{{Cube: right(fill("", 32) + front), Action: 7}})
		}
	}
	both := one(func(x *api.Entry) { x.Src, x.SrcBits, x.Dst, x.DstBits = 0x0a0000ff, 8, 0xc0a80101, 17 })
	expands(t, []api.Entry{both}, []api.Rule{{Cube: right(fill("00001010", 32) + "11000000101010000"), Action: 7}})
}

func TestP81Ranges(t *testing.T) {
	for _, r := range [][2]int{{0, 0}, {80, 80}, {65535, 65535}, {0, 65535}, {0, 1}, {1, 2}, {1, 6}, {1, 65534}, {0, 65534}, {1, 65535}, {32767, 32768}, {1000, 60000}} {
		for _, q := range [][2]int{{0, 65535}, {80, 80}, {1, 65534}, {7, 443}} {
			x := one(func(x *api.Entry) { x.SLow, x.SHigh, x.DLow, x.DHigh = r[0], r[1], q[0], q[1] })
			y := one(func(x *api.Entry) { x.SLow, x.SHigh, x.DLow, x.DHigh = q[0], q[1], r[0], r[1] })
			expands(t, []api.Entry{x}, expandOf([]api.Entry{x}))
			expands(t, []api.Entry{y}, expandOf([]api.Entry{y}))
		}
	}
	inOrder(t, []api.Entry{plain(0, 1)}, 1)
}

// The source range's pieces are gone through once, the other's once for each of them.
func TestP81OuterIsSource(t *testing.T) {
	x := one(func(x *api.Entry) { x.SLow, x.SHigh, x.DLow, x.DHigh, x.Proto = 1, 6, 7, 8, 6 })
	var want []api.Rule
	for _, s := range []string{"0000000000000001", "000000000000001*", "000000000000010*", "0000000000000110"} {
		for _, d := range []string{"0000000000000111", "0000000000001000"} {
			c := right(fill("", 64) + s + d + "00000110")
			want = append(want, api.Rule{Order: len(want), Cube: c, Action: 7})
		}
	}
	expands(t, []api.Entry{x}, want)
	// Behind others the orders go on.
	for i := range want {
		want[i].Order = i + 1
	}
	want = append([]api.Rule{{Action: 2}}, append(want, api.Rule{Order: 9, Action: 3})...)
	expands(t, []api.Entry{rest(0, 3), x, plain(6, 2)}, want)
}

// All fields at once, and the greatest number of cubes that one entry has.
func TestP81AllFields(t *testing.T) {
	x := api.Entry{Prio: 1, Src: 0x0a010203, SrcBits: 24, Dst: 0xc0a80000, DstBits: 16, SLow: 1, SHigh: 65534, DLow: 1, DHigh: 65534, Proto: 17, Action: 8}
	got, e := Expand([]api.Entry{x}, 2048)
	if len(got) != 900 || e != api.OK || !slices.Equal(got, expandOf([]api.Entry{x})) {
		t.Error(len(got), e)
	}
	for i, r := range got {
		if r.Order != i || r.Action != 8 || !cube.Right(r.Cube) || !strings.HasPrefix(letters(r.Cube), fill("000010100000000100000010", 32)+fill("1100000010101000", 32)) || !strings.HasSuffix(letters(r.Cube), "00010001") {
			t.Errorf("rule %d: %v", i, r)
		}
	}
	expands(t, []api.Entry{x}, got)
}

func TestP81Proto(t *testing.T) {
	for n := range 256 {
		x := one(func(x *api.Entry) { x.Proto = n })
		c := right(fill("", 96) + letters(api.Cube{Value: api.Header{byte(n)}, Mask: api.Header{255}})[:8])
		expands(t, []api.Entry{x}, []api.Rule{{Cube: c, Action: 7}})
	}
	inOrder(t, []api.Entry{one(func(x *api.Entry) { x.Proto = -1 })}, 7)
}

// spoilt are entries that have no rules, each for one reason.
func spoilt() []api.Entry {
	var out []api.Entry
	for _, r := range [][2]int{{5, 4}, {1, 0}, {65535, 0}, {-1, 4}, {-1, 65535}, {-1, -1}, {0, 65536}, {80, 65536}, {65536, 65536}, {0, -1},
		{math.MinInt, math.MaxInt}, {0, math.MaxInt}, {math.MinInt, 65535}, {math.MaxInt, math.MinInt}, {1 << 32, 1<<32 + 5}, {65536, 65540}, {-65536, -65530}} {
		out = append(out, one(func(x *api.Entry) { x.SLow, x.SHigh = r[0], r[1] }), one(func(x *api.Entry) { x.DLow, x.DHigh = r[0], r[1] }))
	}
	for _, p := range []int{-2, -255, -256, 256, 257, 1 << 32, 1<<32 - 1, 1<<32 + 6, math.MinInt, math.MaxInt} {
		out = append(out, one(func(x *api.Entry) { x.Proto = p }))
	}
	return append(out, one(func(x *api.Entry) { x.SLow, x.DLow, x.DHigh, x.Proto = -1, 9, 8, 256 }))
}

func TestP81CantBe(t *testing.T) {
	for _, x := range spoilt() {
		for _, most := range []int{0, -1, 1, 2048} {
			if got, e := Expand([]api.Entry{x}, most); len(got) != 0 || e != api.OK {
				t.Errorf("Expand(%v, %d): %v, %d", x, most, got, e)
			}
		}
		// The others stay, with their orders going on as if it were not there.
		inOrder(t, []api.Entry{plain(6, 1), x, plain(5, 2), x, rest(0, 3), x, plain(4, 4)}, 1, 2, 4, 3)
		inOrder(t, []api.Entry{x, x, rest(0, 3), x}, 3)
	}
	inOrder(t, append(spoilt(), rest(0, 1)), 1)
}

func TestP81Most(t *testing.T) {
	expands(t, ports(1), expandOf(ports(1)))
	expands(t, ports(20), expandOf(ports(20)))
	// An entry with many rules is too many, wherever it is cut off; so is a Default one behind all others.
	wide := one(func(x *api.Entry) { x.SLow, x.SHigh, x.DLow, x.DHigh = 1, 14, 1, 30 })
	l := []api.Entry{wide, rest(0, 1)}
	all := expandOf(l)
	for most := -2; most < len(all)+3; most++ {
		got, e := Expand(l, most)
		if most < len(all) && (len(got) != 0 || e != api.ErrMany) || most >= len(all) && (!slices.Equal(got, all) || e != api.OK) {
			t.Errorf("Expand, %d of %d: %d, %d", most, len(all), len(got), e)
		}
	}
}

func TestP81MaxExpand(t *testing.T) {
	wide := one(func(x *api.Entry) { x.SLow, x.SHigh, x.DLow, x.DHigh = 1, 65534, 1, 65534 })
	full := [][]api.Entry{ports(2048), append(ports(2047), rest(0, 1)), append([]api.Entry{wide, wide}, ports(248)...)}
	for _, l := range full {
		want := expandOf(l)
		if len(want) != 2048 {
			t.Fatal(len(want))
		}
		for _, most := range []int{2048, 2049, 4096, 1 << 32, 1<<32 + 5, math.MaxInt} {
			if got, e := Expand(l, most); !slices.Equal(got, want) || e != api.OK {
				t.Errorf("2048 rules, %d: %d, %d", most, len(got), e)
			}
			for _, more := range [][]api.Entry{append(slices.Clone(l), rest(0, 1)), append([]api.Entry{plain(9, 1)}, l...), append(slices.Clone(l), wide)} {
				if got, e := Expand(more, most); len(got) != 0 || e != api.ErrMany {
					t.Errorf("more than 2048 rules, %d: %d, %d", most, len(got), e)
				}
			}
		}
		if got, e := Expand(l, 2047); len(got) != 0 || e != api.ErrMany {
			t.Error("2048 rules, 2047:", len(got), e)
		}
	}
}

func TestP81Model(t *testing.T) {
	n := noise(811)
	many, none := 0, 0
	for range 1500 {
		l := n.entries(n.below(6))
		want := expandOf(l)
		if len(want) > 2048 {
			if got, e := Expand(l, math.MaxInt); len(got) != 0 || e != api.ErrMany {
				t.Errorf("Expand(%v): %d, %d", l, len(got), e)
			}
			continue
		}
		expands(t, l, want)
		if len(want) > 50 {
			many++
		}
		if len(want) == 0 {
			none++
		}
	}
	if many < 100 || none < 100 {
		t.Error("the lists are too much of one kind:", many, none)
	}
}

// What is handed in stays as it is, its spare room too; what is answered is new memory.
func TestP81Shares(t *testing.T) {
	room := []api.Entry{rest(0, 1), plain(1, 2), plain(2, 3), rest(9, 4), plain(3, 5), plain(4, 6)}
	before := slices.Clone(room)
	first, _ := Expand(room[:3], 9)
	second, _ := Expand(room[:3], 9)
	Expand(room[:3], 2)
	want := slices.Clone(second)
	first = first[:cap(first)]
	for i := range first {
		first[i] = api.Rule{Order: 8, Cube: cube.Of(ones), Action: 8}
	}
	if third, _ := Expand(room[:3], 9); !slices.Equal(room, before) || !slices.Equal(second, want) || !slices.Equal(third, want) || len(want) != 3 {
		t.Error("an answer shares memory:", room, second, third)
	}
}
