package head

import (
	"math"
	"math/big"
	"testing"

	"milepost/api"
)

// The tests are named by the promises of shared/doc/01-head.md.

var (
	noughts = api.Header{}
	ones    = api.Header{255, 255, 255, 255, 255, 255, 255, 255, 255, 255, 255, 255, 255}
	mixed   = api.Header{0x0a, 0, 0, 1, 1, 2, 3, 4, 0, 80, 0, 53, 17}
	uneven  = api.Header{0x12, 0x34, 0x56, 0x78, 0x9a, 0xbc, 0xde, 0xf0, 0x12, 0x34, 0xfe, 0xdc, 0xa5}
)

// standing tells, apart from the package's own table, where the chapter says that each field stands.
func standing() [5][2]int {
	return [5][2]int{api.Src: {0, 32}, api.Dst: {32, 32}, api.Sport: {64, 16}, api.Dport: {80, 16}, api.Proto: {96, 8}}
}

func noFields() []int {
	return []int{-1, 5, 6, 104, math.MinInt, math.MaxInt}
}

func noBits() []int {
	return []int{-1, -8, 104, 105, 111, 1 << 32, math.MinInt, math.MaxInt}
}

// bitOf tells a bit by the header's number, the first byte being the highest.
func bitOf(h api.Header, i int) bool {
	return new(big.Int).SetBytes(h[:]).Bit(api.HeadBits-1-i) == 1
}

// scatter answers headers that differ in every bit somewhere, always the same ones.
func scatter(n int) []api.Header {
	var out []api.Header
	x := uint64(88172645463325252)
	for range n {
		var h api.Header
		for i := range h {
			x ^= x << 13
			x ^= x >> 7
			x ^= x << 17
			h[i] = byte(x >> 32)
		}
		out = append(out, h)
	}
	return out
}

func TestP11Make(t *testing.T) {
	rows := []struct {
		src, dst     uint32
		sport, dport uint16
		proto        uint8
		want         api.Header
	}{
		{0, 0, 0, 0, 0, noughts},
		{math.MaxUint32, math.MaxUint32, math.MaxUint16, math.MaxUint16, math.MaxUint8, ones},
		{0x0a000001, 0x01020304, 80, 53, 17, mixed},
		{0x12345678, 0x9abcdef0, 0x1234, 0xfedc, 0xa5, uneven},
		{1, 0, 0, 0, 0, api.Header{3: 1}},
		{0, 1 << 31, 0, 0, 0, api.Header{4: 128}},
		{0, 0, 256, 0, 0, api.Header{8: 1}},
		{0, 0, 0, 1, 0, api.Header{11: 1}},
		{0, 0, 0, 0, 1, api.Header{12: 1}},
	}
	for _, r := range rows {
		if h := Make(r.src, r.dst, r.sport, r.dport, r.proto); h != r.want {
			t.Errorf("Make(%x, %x, %x, %x, %x): %v, not %v", r.src, r.dst, r.sport, r.dport, r.proto, h, r.want)
		}
	}
}

func TestP11Place(t *testing.T) {
	for f, want := range standing() {
		if first, width, e := Place(f); first != want[0] || width != want[1] || e != api.OK {
			t.Errorf("Place(%d): %d, %d, %d", f, first, width, e)
		}
	}
	for _, f := range noFields() {
		if first, width, e := Place(f); first != 0 || width != 0 || e != api.ErrArg {
			t.Errorf("Place(%d): %d, %d, %d", f, first, width, e)
		}
	}
}

func TestP11Field(t *testing.T) {
	for _, h := range append(scatter(50), noughts, ones, mixed, uneven) {
		for f, p := range standing() {
			want := uint32(0)
			for i := p[0]; i < p[0]+p[1]; i++ {
				want *= 2
				if bitOf(h, i) {
					want++
				}
			}
			if v, e := Field(h, f); v != want || e != api.OK {
				t.Errorf("Field(%v, %d): %x, %d, not %x", h, f, v, e, want)
			}
		}
		for _, f := range noFields() {
			if v, e := Field(h, f); v != 0 || e != api.ErrArg {
				t.Errorf("Field(%v, %d): %x, %d", h, f, v, e)
			}
		}
	}
}

func TestP11With(t *testing.T) {
	for f, p := range standing() {
		most := uint32(1<<p[1] - 1)
		for _, h := range append(scatter(20), noughts, ones, mixed, uneven) {
			for _, v := range []uint32{0, 1, 2, 128, 0xa5, 0xfedc, 0x12345678, 1 << 31, most / 2, most} {
				if v > most {
					continue
				}
				checkWith(t, h, f, v)
			}
		}
	}
}

func checkWith(t *testing.T, h api.Header, f int, v uint32) {
	t.Helper()
	g, e := With(h, f, v)
	if e != api.OK {
		t.Errorf("With(%v, %d, %x): %d", h, f, v, e)
	}
	for k := range standing() {
		got, _ := Field(g, k)
		want, _ := Field(h, k)
		if k == f {
			want = v
		}
		if got != want {
			t.Errorf("With(%v, %d, %x) has %x as field %d, not %x", h, f, v, got, k, want)
		}
	}
}

func TestP11WithWrong(t *testing.T) {
	for f, p := range standing() {
		if p[1] == 32 {
			continue
		}
		for _, v := range []uint32{1 << p[1], 1<<p[1] + 1, 1 << 24, 1 << 31, math.MaxUint32} {
			if g, e := With(ones, f, v); g != noughts || e != api.ErrRange {
				t.Errorf("With(%d, %x): %v, %d", f, v, g, e)
			}
		}
	}
	for _, f := range noFields() {
		for _, v := range []uint32{0, 1, 256, 1 << 16, math.MaxUint32} {
			if g, e := With(ones, f, v); g != noughts || e != api.ErrArg {
				t.Errorf("With(%d, %x): %v, %d", f, v, g, e)
			}
		}
	}
}

func TestP12Bit(t *testing.T) {
	for _, h := range append(scatter(50), noughts, ones, mixed, uneven) {
		for i := range api.HeadBits {
			if Bit(h, i) != bitOf(h, i) {
				t.Errorf("Bit(%v, %d): %v", h, i, Bit(h, i))
			}
		}
		for _, i := range noBits() {
			if Bit(h, i) {
				t.Errorf("Bit(%v, %d): true", h, i)
			}
		}
	}
	if !Bit(Make(1<<31, 0, 0, 0, 0), 0) || !Bit(Make(0, 0, 0, 0, 1), 103) {
		t.Error("the first and the last bit")
	}
}

func TestP12Flip(t *testing.T) {
	for _, h := range append(scatter(10), noughts, ones, mixed, uneven) {
		for i := range api.HeadBits {
			g := Flip(h, i)
			for k := range api.HeadBits {
				if bitOf(g, k) != (bitOf(h, k) != (k == i)) {
					t.Errorf("Flip(%v, %d): bit %d", h, i, k)
				}
			}
		}
		for _, i := range noBits() {
			if g := Flip(h, i); g != h {
				t.Errorf("Flip(%v, %d): %v", h, i, g)
			}
		}
	}
}

func TestP12Less(t *testing.T) {
	for _, h := range append(scatter(30), noughts, ones, mixed, uneven) {
		if Less(h, h) {
			t.Errorf("Less(%v, itself)", h)
		}
		for i := range api.HeadBits {
			g := Flip(h, i)
			for k := i + 1; k < api.HeadBits; k += 5 { // what differs behind the first bit says nothing
				g = Flip(g, k)
			}
			if Less(h, g) == bitOf(h, i) || Less(g, h) != bitOf(h, i) {
				t.Errorf("Less of %v and %v", h, g)
			}
		}
	}
	list := append(scatter(40), noughts, ones, mixed, uneven)
	for _, a := range list {
		for _, b := range list {
			want := new(big.Int).SetBytes(a[:]).Cmp(new(big.Int).SetBytes(b[:])) < 0
			if Less(a, b) != want {
				t.Errorf("Less(%v, %v): %v", a, b, !want)
			}
		}
	}
}
