package sense

import (
	"slices"
	"testing"

	"milepost/api"
	"milepost/head"
)

// one is an entry that applies to all headers, but for what is changed.
func one(change func(x *api.Entry)) api.Entry {
	x := plain(5, 7)
	change(&x)
	return x
}

// holds holds what Applies says against what must be, and against the reckoning.
func holds(t *testing.T, x api.Entry, h api.Header, want bool) {
	t.Helper()
	if got := Applies(x, h); got != want || applies(x, h) != want {
		t.Errorf("Applies(%v, %s): %t, not %t", x, head.Text(h), got, want)
	}
}

func TestP73Examples(t *testing.T) {
	l, _, _ := Read("9 dport 80 -> port 1\n9 src 10.0.0.0/8 -> port 2\ndefault -> drop")
	for _, x := range []struct {
		h     string
		which int
		act   int
	}{
		{"10.0.0.1:5>0.0.0.0:80/6", 0, 1},
		{"10.0.0.1:5>0.0.0.0:81/6", 1, 2},
		{"11.0.0.1:5>0.0.0.0:80/6", 0, 1},
		{"11.0.0.1:5>0.0.0.0:81/6", 2, 0},
		{"9.255.255.255:5>10.0.0.0:79/6", 2, 0},
		{"10.255.255.255:80>0.0.0.0:65535/0", 1, 2},
	} {
		h, _ := head.Parse(x.h)
		act, ok := Says(l, h)
		if i := Which(l, h); i != x.which || act != x.act || !ok {
			t.Errorf("%s: %d, %d, %t", x.h, i, act, ok)
		}
	}
}

// headers are some with all fields of noughts, of ones and of both.
func headers() []api.Header {
	out := []api.Header{{}, head.Make(1<<32-1, 1<<32-1, 65535, 65535, 255), head.Make(10<<24|1, 1<<31, 80, 443, 6)}
	n := noise(7)
	for range 20 {
		out = append(out, n.header(nil))
	}
	return out
}

func TestP73AppliesAll(t *testing.T) {
	n := noise(73)
	for _, h := range headers() {
		holds(t, plain(0, 0), h, true)
		holds(t, api.Entry{Default: true}, h, true)
		// A Default one applies whatever its other fields say.
		for range 50 {
			x := n.entry()
			x.Default = true
			holds(t, x, h, true)
		}
		holds(t, api.Entry{Default: true, SLow: 9, SHigh: 8, DLow: 9, DHigh: 8, Proto: -2, Src: 1, SrcBits: 32}, h, true)
	}
	// The zero entry is no Default one: its ranges and its protocol are 0.
	holds(t, api.Entry{}, api.Header{}, true)
	holds(t, api.Entry{}, head.Make(1<<32-1, 1<<32-1, 0, 0, 0), true)
	holds(t, api.Entry{}, head.Make(0, 0, 1, 0, 0), false)
	holds(t, api.Entry{}, head.Make(0, 0, 0, 1, 0), false)
	holds(t, api.Entry{}, head.Make(0, 0, 0, 0, 1), false)
}

// Of a prefix of each length the last bit that counts, and the first that doesn't, is turned.
func TestP73AppliesPrefix(t *testing.T) {
	for _, address := range []uint32{0, 1<<32 - 1, 0x0a000001, 0x55555555, 1 << 31} {
		for bits := range 33 {
			src := one(func(x *api.Entry) { x.Src, x.SrcBits = address, bits })
			dst := one(func(x *api.Entry) { x.Dst, x.DstBits = address, bits })
			for bit := range 32 {
				turned := address ^ 1<<(31-bit)
				holds(t, src, head.Make(turned, ^turned, 1, 2, 3), bit >= bits)
				holds(t, dst, head.Make(^turned, turned, 1, 2, 3), bit >= bits)
			}
			size := uint64(1) << (32 - bits)
			low := uint64(address) / size * size
			for _, v := range []uint64{low, low + size - 1, low + size, low - 1, uint64(address)} {
				if v < 1<<32 {
					within := v >= low && v < low+size
					holds(t, src, head.Make(uint32(v), 0x12345678, 1, 2, 3), within)
					holds(t, dst, head.Make(0x12345678, uint32(v), 1, 2, 3), within)
				}
			}
		}
	}
}

func TestP73AppliesBitsBeyond(t *testing.T) {
	for _, address := range []uint32{0, 1<<32 - 1, 0x0a000001} {
		for _, h := range headers() {
			src, _ := head.Field(h, api.Src)
			dst, _ := head.Field(h, api.Dst)
			for _, bits := range []int{-1, -2, -32, -33, -1 << 32, least, least + 32} {
				holds(t, one(func(x *api.Entry) { x.Src, x.SrcBits = address, bits }), h, true)
				holds(t, one(func(x *api.Entry) { x.Dst, x.DstBits = address, bits }), h, true)
			}
			for _, bits := range []int{33, 34, 64, 65, 1 << 32, 1<<32 + 1, greatest, greatest - 31} {
				holds(t, one(func(x *api.Entry) { x.Src, x.SrcBits = address, bits }), h, src == address)
				holds(t, one(func(x *api.Entry) { x.Dst, x.DstBits = address, bits }), h, dst == address)
				holds(t, one(func(x *api.Entry) { x.Src, x.SrcBits = src, bits }), h, true)
				holds(t, one(func(x *api.Entry) { x.Src, x.SrcBits = src^1, bits }), h, false)
				holds(t, one(func(x *api.Entry) { x.Dst, x.DstBits = dst, bits }), h, true)
				holds(t, one(func(x *api.Entry) { x.Dst, x.DstBits = dst^1, bits }), h, false)
			}
		}
	}
}

func TestP73AppliesRange(t *testing.T) {
	ends := []int{least, -65536, -1, 0, 1, 79, 80, 81, 32767, 32768, 65534, 65535, 65536, 1 << 32, greatest}
	for _, low := range ends {
		for _, high := range ends {
			s := one(func(x *api.Entry) { x.SLow, x.SHigh = low, high })
			d := one(func(x *api.Entry) { x.DLow, x.DHigh = low, high })
			for _, v := range []uint16{0, 1, 2, 78, 79, 80, 81, 82, 32767, 32768, 65533, 65534, 65535} {
				want := low <= int(v) && int(v) <= high
				holds(t, s, head.Make(1, 2, v, ^v, 3), want)
				holds(t, d, head.Make(1, 2, ^v, v, 3), want)
			}
		}
	}
}

func TestP73AppliesProto(t *testing.T) {
	for v := range 256 {
		h := head.Make(1, 2, 3, 4, uint8(v))
		holds(t, one(func(x *api.Entry) { x.Proto = -1 }), h, true)
		for _, p := range []int{least, -257, -256, -255, -2, 256, 257, 1 << 32, greatest, v - 256, v + 256, v - 257} {
			if p != -1 {
				holds(t, one(func(x *api.Entry) { x.Proto = p }), h, false)
			}
		}
		for p := range 256 {
			holds(t, one(func(x *api.Entry) { x.Proto = p }), h, p == v)
		}
	}
}

// Each field alone can keep an entry from applying.
func TestP73AppliesEachField(t *testing.T) {
	x := api.Entry{Prio: 1, Src: 0x0a000000, SrcBits: 8, Dst: 0x01020300, DstBits: 24, SLow: 10, SHigh: 20, DLow: 30, DHigh: 40, Proto: 6, Action: 3}
	h := head.Make(0x0a010203, 0x010203ff, 15, 35, 6)
	holds(t, x, h, true)
	for f, v := range []uint32{0x0b010203, 0x010204ff, 9, 41, 7} {
		g, _ := head.With(h, f, v)
		holds(t, x, g, false)
	}
}

func TestP73AppliesModel(t *testing.T) {
	n := noise(731)
	yes := 0
	for range 40000 {
		l := n.entries(1)
		h := n.header(l)
		got := Applies(l[0], h)
		if got != applies(l[0], h) {
			t.Fatalf("Applies(%v, %s): %t", l[0], head.Text(h), got)
		}
		if got {
			yes++
		}
	}
	if yes < 4000 || yes > 36000 {
		t.Error(yes)
	}
}

// told holds Which and Says against the place that must be; -1: nothing is said.
func told(t *testing.T, l []api.Entry, h api.Header, want int) {
	t.Helper()
	i := Which(l, h)
	act, ok := Says(l, h)
	wantAct := 0
	if want >= 0 {
		wantAct = l[want].Action
	}
	if i != want || which(l, h) != want || act != wantAct || ok != (want >= 0) {
		t.Errorf("%v, %s: %d, %d, %t, not %d", l, head.Text(h), i, act, ok, want)
	}
}

func TestP73Nothing(t *testing.T) {
	none := one(func(x *api.Entry) { x.DLow, x.DHigh = 9, 8 })
	far := one(func(x *api.Entry) { x.Proto = 256 })
	for _, h := range headers() {
		told(t, nil, h, -1)
		told(t, []api.Entry{}, h, -1)
		told(t, []api.Entry{none}, h, -1)
		told(t, []api.Entry{none, far, none}, h, -1)
	}
}

func TestP73Which(t *testing.T) {
	h := head.Make(1, 2, 3, 4, 5)
	none := func(prio int) api.Entry {
		return api.Entry{Prio: prio, SHigh: 65535, DHigh: 65535, Proto: 6, Action: 50}
	}
	rest := func(prio int, act int) api.Entry { return api.Entry{Default: true, Prio: prio, Action: act} }
	for _, x := range []struct {
		l    []api.Entry
		want int
	}{
		{[]api.Entry{plain(5, 1)}, 0},
		{[]api.Entry{plain(5, 1), plain(5, 2)}, 0},
		{[]api.Entry{plain(5, 1), plain(6, 2)}, 1},
		{[]api.Entry{plain(6, 1), plain(5, 2)}, 0},
		{[]api.Entry{plain(5, 1), plain(6, 2), plain(6, 3), plain(5, 4)}, 1},
		{[]api.Entry{plain(5, 1), plain(6, 2), plain(7, 3), plain(7, 4)}, 2},
		{[]api.Entry{plain(0, 1), none(9)}, 0},
		{[]api.Entry{none(9), plain(0, 1)}, 1},
		{[]api.Entry{none(9), plain(5, 1), none(5), plain(5, 2)}, 1},
		// A negative Prio is one too.
		{[]api.Entry{plain(-5, 1), plain(-4, 2)}, 1},
		{[]api.Entry{plain(-1, 1)}, 0},
		{[]api.Entry{plain(least, 1), plain(least, 2)}, 0},
		{[]api.Entry{plain(least, 1), plain(greatest, 2), plain(greatest, 3)}, 1},
		// A Default one gives way to any other that applies, wherever it stands, whatever its Prio is.
		{[]api.Entry{rest(0, 1)}, 0},
		{[]api.Entry{rest(0, 1), plain(0, 2)}, 1},
		{[]api.Entry{plain(0, 2), rest(0, 1)}, 0},
		{[]api.Entry{rest(9, 1), plain(0, 2)}, 1},
		{[]api.Entry{rest(greatest, 1), plain(least, 2)}, 1},
		{[]api.Entry{plain(least, 2), rest(greatest, 1)}, 0},
		{[]api.Entry{rest(9, 1), none(5), plain(3, 2), rest(8, 1)}, 2},
		// Of several the first counts, whatever their Prio is.
		{[]api.Entry{rest(0, 1), rest(0, 2)}, 0},
		{[]api.Entry{rest(0, 1), rest(9, 2)}, 0},
		{[]api.Entry{none(1), rest(0, 1), none(2), rest(9, 2), none(3)}, 1},
		{[]api.Entry{none(1), none(2)}, -1},
		// An action that is none of a policy's is said as it is; drop is something that is said.
		{[]api.Entry{plain(1, -3), rest(0, 100)}, 0},
		{[]api.Entry{rest(0, -100)}, 0},
		{[]api.Entry{plain(1, 0), plain(0, 5)}, 0},
	} {
		told(t, x.l, h, x.want)
	}
}

func TestP73Model(t *testing.T) {
	n := noise(732)
	found := map[string]int{}
	for range 20000 {
		l := n.entries(n.below(7))
		h := n.header(l)
		want := which(l, h)
		told(t, l, h, want)
		switch {
		case want < 0:
			found["nothing"]++
		case l[want].Default:
			found["default"]++
		default:
			found["rule"]++
		}
	}
	for _, k := range []string{"nothing", "default", "rule"} {
		if found[k] < 1000 {
			t.Error(found)
		}
	}
}

func TestSaysArgumentsStay(t *testing.T) {
	n := noise(733)
	l := n.entries(9)
	before := slices.Clone(l)
	for range 100 {
		h := n.header(l)
		g := h
		Which(l[:4], h)
		Says(l[:4], h)
		Applies(l[0], h)
		if g != h || !slices.Equal(l, before) {
			t.Fatal("what was handed in is another")
		}
	}
}
