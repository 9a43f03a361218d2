package tcam

import (
	"math"
	"slices"
	"testing"

	"milepost/api"
	"milepost/cube"
)

// byFirst is the cube of all headers whose first byte is b.
func byFirst(b byte) api.Cube {
	return api.Cube{Value: api.Header{b}, Mask: api.Header{255}}
}

func table(t *testing.T, cache int, auth int, part int, idle int, hard int) *Table {
	t.Helper()
	x, e := New(cache, auth, part, idle, hard)
	if x == nil || e != api.OK {
		t.Fatal("New:", cache, auth, part, idle, hard, e)
	}
	return x
}

// learn learns where nothing should leave.
func learn(t *testing.T, x *Table, now int, epoch int, c api.Cube, action int) {
	t.Helper()
	if s, gone, e := x.Learn(now, epoch, c, action); s != (api.Slot{}) || gone || e != api.OK {
		t.Fatal("Learn:", now, epoch, c, action, ":", s, gone, e)
	}
}

func lay(t *testing.T, x *Table, s api.Slot) {
	t.Helper()
	if e := x.Lay(s); e != api.OK {
		t.Fatal("Lay:", s, e)
	}
}

func wantSlots(t *testing.T, what string, got []api.Slot, want ...api.Slot) {
	t.Helper()
	if !slices.Equal(got, want) {
		t.Errorf("%s: got %v, want %v", what, got, want)
	}
}

// wantBank asks both calls that tell of a bank.
func wantBank(t *testing.T, x *Table, bank int, want ...api.Slot) {
	t.Helper()
	wantSlots(t, "Slots", x.Slots(bank), want...)
	if n := x.Count(bank); n != len(want) {
		t.Errorf("Count(%d): %d, want %d", bank, n, len(want))
	}
}

// actions are those of a list, in its order.
func actions(l []api.Slot) []int {
	var out []int
	for _, s := range l {
		out = append(out, s.Action)
	}
	return out
}

func wantActions(t *testing.T, what string, l []api.Slot, want ...int) {
	t.Helper()
	if got := actions(l); !slices.Equal(got, want) {
		t.Errorf("%s: actions %v, want %v", what, got, want)
	}
}

// all tells everything that a table has.
func all(x *Table) []api.Slot {
	return slices.Concat(x.Slots(api.Cache), x.Slots(api.Auth), x.Slots(api.Part))
}

// unchanged runs a call that must leave the table as it is.
func unchanged(t *testing.T, x *Table, call func()) {
	t.Helper()
	ahead := all(x)
	call()
	wantSlots(t, "behind a call that changes nothing", all(x), ahead...)
}

func TestNilTable(t *testing.T) {
	var x *Table
	if s, gone, e := x.Learn(1, 1, cube.All(), 1); s != (api.Slot{}) || gone || e != api.ErrNil {
		t.Error("Learn:", s, gone, e)
	}
	for bank := -1; bank <= 4; bank++ {
		if e := x.Lay(api.Slot{Bank: bank}); e != api.ErrNil {
			t.Error("Lay:", bank, e)
		}
		if n := x.Count(bank); n != 0 {
			t.Error("Count:", bank, n)
		}
		if l := x.Slots(bank); len(l) != 0 {
			t.Error("Slots:", bank, l)
		}
	}
	if s, ok := x.Look(1, 0, api.Header{}); s != (api.Slot{}) || ok {
		t.Error("Look:", s, ok)
	}
	if s, ok := x.Peek(0, api.Header{}); s != (api.Slot{}) || ok {
		t.Error("Peek:", s, ok)
	}
	if l := x.Rules(0); len(l) != 0 {
		t.Error("Rules:", l)
	}
	if n := x.Keep(1, 2); n != 0 {
		t.Error("Keep:", n)
	}
	if l := x.Tick(api.MaxTicks); len(l) != 0 {
		t.Error("Tick:", l)
	}
}

func TestP111New(t *testing.T) {
	tops := []int{2048, 2048, 2048, 1 << 40, 1 << 40}
	for i, top := range tops {
		for _, n := range []int{math.MinInt, -top, -1, 0, 1, top - 1, top, top + 1, math.MaxInt} {
			a := []int{1, 1, 1, 1, 1}
			a[i] = n
			x, e := New(a[0], a[1], a[2], a[3], a[4])
			if n < 0 || n > top {
				if x != nil || e != api.ErrArg {
					t.Error(a, x, e)
				}
				continue
			}
			if x == nil || e != api.OK {
				t.Fatal(a, e)
			}
			wantSlots(t, "a new table", all(x))
		}
	}
	table(t, 0, 0, 0, 0, 0)
	table(t, 2048, 2048, 2048, 1<<40, 1<<40)
	if x, e := New(-1, 2049, -1, 1<<40+1, -1); x != nil || e != api.ErrArg {
		t.Error(x, e)
	}
}

// TestP111Apart: each table has slots of its own.
func TestP111Apart(t *testing.T) {
	x, y := table(t, 1, 1, 1, 0, 0), table(t, 1, 1, 1, 0, 0)
	learn(t, x, 1, 1, cube.All(), 1)
	lay(t, x, api.Slot{Bank: api.Auth})
	wantSlots(t, "the other table", all(y))
}

// TestP111Room fills each bank to its room, and hands in one slot more.
func TestP111Room(t *testing.T) {
	for _, room := range []int{0, 1, 2, 7, api.MaxBank - 1, api.MaxBank} {
		for bank := api.Cache; bank <= api.Part; bank++ {
			rooms := [4]int{}
			rooms[bank] = room
			x := table(t, rooms[1], rooms[2], rooms[3], 0, 0)
			for i := range room {
				if bank == api.Cache {
					learn(t, x, i, 1, numbered(i), 1)
				} else {
					lay(t, x, api.Slot{Bank: bank, At: i})
				}
				if n := x.Count(bank); n != i+1 {
					t.Fatal(room, bank, i, n)
				}
			}
			oneMore(t, x, bank, room)
			if n := x.Count(bank); n != room {
				t.Error(room, bank, n)
			}
			for other := api.Cache; other <= api.Part; other++ {
				if other != bank {
					oneMore(t, x, other, 0)
				}
			}
		}
	}
}

// numbered is a cube of its own for each number.
func numbered(i int) api.Cube {
	return cube.Of(api.Header{byte(i >> 8), byte(i)})
}

func oneMore(t *testing.T, x *Table, bank int, room int) {
	t.Helper()
	if bank == api.Cache && room > 0 {
		want := api.Slot{Bank: api.Cache, Epoch: 1, Cube: numbered(0), Action: 1}
		if s, gone, e := x.Learn(room, 1, numbered(room), 1); s != want || !gone || e != api.OK {
			t.Error(bank, room, s, gone, e)
		}
		return
	}
	unchanged(t, x, func() {
		if bank == api.Cache {
			if s, gone, e := x.Learn(1, 1, cube.All(), 1); s != (api.Slot{}) || gone || e != api.ErrFull {
				t.Error(bank, room, s, gone, e)
			}
		} else if e := x.Lay(api.Slot{Bank: bank, At: room}); e != api.ErrFull {
			t.Error(bank, room, e)
		}
	})
}

// TestExample is the chapter's.
func TestExample(t *testing.T) {
	a, b, _ := cube.Split(cube.All(), 0)
	x := table(t, 1, 9, 9, 5, 0)
	learn(t, x, 0, 1, a, 3)
	if s, gone, e := x.Learn(1, 1, b, 4); s != (api.Slot{Bank: api.Cache, Epoch: 1, Cube: a, Action: 3}) || !gone || e != api.OK {
		t.Error(s, gone, e)
	}
	wantSlots(t, "Tick(5)", x.Tick(5))
	wantSlots(t, "Tick(6)", x.Tick(6), api.Slot{Bank: api.Cache, Epoch: 1, Cube: b, Action: 4, Born: 1, Used: 1})
	wantBank(t, x, api.Cache)
}

func TestP112New(t *testing.T) {
	x := table(t, 9, 0, 0, 0, 0)
	learn(t, x, 5, 1, byFirst(1), 3)
	learn(t, x, 4, -7, byFirst(2), 0)
	learn(t, x, 6, math.MaxInt, byFirst(0), math.MinInt)
	wantBank(t, x, api.Cache,
		api.Slot{Bank: 1, Epoch: 1, Cube: byFirst(1), Action: 3, Born: 5, Used: 5},
		api.Slot{Bank: 1, Epoch: -7, Cube: byFirst(2), Born: 4, Used: 4},
		api.Slot{Bank: 1, Epoch: math.MaxInt, Cube: byFirst(0), Action: math.MinInt, Born: 6, Used: 6})
	wantBank(t, x, api.Auth)
	wantBank(t, x, api.Part)
}

func TestP112Times(t *testing.T) {
	for _, c := range [][2]int{{math.MinInt, 0}, {-1, 0}, {0, 0}, {1, 1}, {1<<40 - 1, 1<<40 - 1}, {1 << 40, 1 << 40}, {1<<40 + 1, 1 << 40}, {math.MaxInt, 1 << 40}} {
		x := table(t, 2, 0, 0, 0, 0)
		want := api.Slot{Bank: 1, Epoch: 1, Cube: byFirst(1), Action: 3, Born: c[1], Used: c[1]}
		learn(t, x, c[0], 1, byFirst(1), 3)
		wantBank(t, x, api.Cache, want)
		x = table(t, 2, 0, 0, 0, 0)
		learn(t, x, 77, 1, byFirst(1), 2)
		learn(t, x, c[0], 1, byFirst(1), 3)
		wantBank(t, x, api.Cache, want)
	}
}

// TestP112Right: a cube is kept as the right one, and found by that.
func TestP112Right(t *testing.T) {
	x := table(t, 3, 0, 0, 0, 0)
	wrong := byFirst(1)
	wrong.Value[1], wrong.Value[12] = 9, 255
	learn(t, x, 1, 1, wrong, 3)
	wantBank(t, x, api.Cache, api.Slot{Bank: 1, Epoch: 1, Cube: byFirst(1), Action: 3, Born: 1, Used: 1})
	learn(t, x, 2, 1, byFirst(1), 4)
	wantBank(t, x, api.Cache, api.Slot{Bank: 1, Epoch: 1, Cube: byFirst(1), Action: 4, Born: 2, Used: 2})
	wrong.Value[1] = 8
	learn(t, x, 3, 1, wrong, 5)
	wantBank(t, x, api.Cache, api.Slot{Bank: 1, Epoch: 1, Cube: byFirst(1), Action: 5, Born: 3, Used: 3})
	narrow := byFirst(1)
	narrow.Mask[1] = 1
	learn(t, x, 4, 1, narrow, 6)
	wantActions(t, "a cube with another mask", x.Slots(api.Cache), 5, 6)
}

// TestP112Again: the same cube of the same epoch stays where it stands, and begins anew; of another epoch it is another slot.
func TestP112Again(t *testing.T) {
	x := table(t, 4, 0, 0, 0, 0)
	for i := range 3 {
		learn(t, x, 1, 1, byFirst(byte(i)), i)
	}
	x.Look(7, 1, api.Header{1})
	x.Look(8, 1, api.Header{1})
	if s, ok := x.Peek(1, api.Header{1}); !ok || s.Count != 2 || s.Used != 8 || s.Born != 1 {
		t.Error(s, ok)
	}
	learn(t, x, 5, 1, byFirst(1), 9)
	old := func(i byte) api.Slot {
		return api.Slot{Bank: 1, Epoch: 1, Cube: byFirst(i), Action: int(i), Born: 1, Used: 1}
	}
	again := api.Slot{Bank: 1, Epoch: 1, Cube: byFirst(1), Action: 9, Born: 5, Used: 5}
	wantBank(t, x, api.Cache, old(0), again, old(2))
	learn(t, x, 6, 2, byFirst(1), 4)
	wantBank(t, x, api.Cache, old(0), again, old(2), api.Slot{Bank: 1, Epoch: 2, Cube: byFirst(1), Action: 4, Born: 6, Used: 6})
	// The cache is full by now: none leaves for what is there.
	learn(t, x, 7, 1, byFirst(0), 8)
	wantActions(t, "again in a full cache", x.Slots(api.Cache), 8, 9, 2, 4)
	// Nor is it held against the other banks' slots.
	y := table(t, 2, 1, 1, 0, 0)
	lay(t, y, api.Slot{Bank: api.Auth, Epoch: 1, Cube: byFirst(1), Action: 5})
	lay(t, y, api.Slot{Bank: api.Part, Epoch: 1, Cube: byFirst(1), One: 5})
	learn(t, y, 7, 1, byFirst(1), 8)
	wantBank(t, y, api.Cache, api.Slot{Bank: 1, Epoch: 1, Cube: byFirst(1), Action: 8, Born: 7, Used: 7})
	wantBank(t, y, api.Auth, api.Slot{Bank: 2, Epoch: 1, Cube: byFirst(1), Action: 5})
	wantBank(t, y, api.Part, api.Slot{Bank: 3, Epoch: 1, Cube: byFirst(1), One: 5})
}

// TestP112Leaves: of a full cache the slot with the least Used leaves, of several the first; it is told as it was.
func TestP112Leaves(t *testing.T) {
	for _, c := range []struct {
		used []int
		gone int
	}{
		{[]int{5}, 0},
		{[]int{5, 5, 5}, 0},
		{[]int{5, 4, 6}, 1},
		{[]int{5, 4, 4}, 1},
		{[]int{6, 5, 4}, 2},
		{[]int{4, 5, 4}, 0},
		{[]int{9, 0, 0, 0, 9}, 1},
		{[]int{api.MaxTicks, api.MaxTicks, 0}, 2},
	} {
		many := len(c.used)
		x := table(t, many, 1, 1, 0, 0)
		lay(t, x, api.Slot{Bank: api.Auth, Epoch: 1})
		for i := range c.used {
			// Born, Action and Count fall: what leaves hangs on none of them.
			learn(t, x, many-i, 1, byFirst(byte(i)), many-i)
		}
		for i, u := range c.used {
			x.Look(u, 1, api.Header{byte(i)})
		}
		ahead := x.Slots(api.Cache)
		want := api.Slot{Bank: 1, Epoch: 1, Cube: byFirst(byte(c.gone)), Action: many - c.gone, Born: many - c.gone, Used: c.used[c.gone], Count: 1}
		s, gone, e := x.Learn(3, 2, byFirst(200), 77)
		if s != want || !gone || e != api.OK {
			t.Error(c, s, gone, e)
		}
		left := append(slices.Delete(ahead, c.gone, c.gone+1), api.Slot{Bank: 1, Epoch: 2, Cube: byFirst(200), Action: 77, Born: 3, Used: 3})
		wantBank(t, x, api.Cache, left...)
		if x.Count(api.Auth) != 1 {
			t.Error("a slot left another bank")
		}
	}
}

// TestP112Older: what comes may be used less late than all that is there; it is the next one to leave.
func TestP112Older(t *testing.T) {
	x := table(t, 2, 0, 0, 0, 0)
	learn(t, x, 9, 1, byFirst(0), 1)
	learn(t, x, 8, 1, byFirst(1), 2)
	for i, want := range []int{2, 3, 4} {
		if s, gone, e := x.Learn(1, 1, byFirst(byte(2+i)), 3+i); s.Action != want || !gone || e != api.OK {
			t.Error(i, s, gone, e)
		}
	}
	wantActions(t, "the oldest", x.Slots(api.Cache), 1, 5)
}

func TestP112NoRoom(t *testing.T) {
	x := table(t, 0, 1, 1, 0, 0)
	for _, now := range []int{-1, 0, 1} {
		if s, gone, e := x.Learn(now, 1, cube.All(), 1); s != (api.Slot{}) || gone || e != api.ErrFull {
			t.Error(s, gone, e)
		}
	}
	wantSlots(t, "no room", all(x))
}

func TestP113Lay(t *testing.T) {
	for _, bank := range []int{api.Auth, api.Part} {
		x := table(t, 9, 9, 9, 1, 1)
		wrong := byFirst(7)
		wrong.Value[3] = 9
		s := api.Slot{Bank: bank, Epoch: 4, At: 5, Order: 6, Cube: wrong, Action: 8, One: 1, Two: 2, Born: 10, Used: 11, Count: 12}
		want := api.Slot{Bank: bank, Epoch: 4, At: 5, Order: 6, Cube: byFirst(7), Action: 8, One: 1, Two: 2}
		lay(t, x, s)
		wantBank(t, x, bank, want)
		wantSlots(t, "all", all(x), want)
		odd := api.Slot{Bank: bank, Epoch: math.MinInt, At: math.MaxInt, Order: math.MinInt, Action: -1, One: -2, Two: math.MaxInt, Born: -1, Used: -1, Count: -1}
		lay(t, x, odd)
		odd.Born, odd.Used, odd.Count = 0, 0, 0
		wantBank(t, x, bank, want, odd)
	}
}

func TestP113NoBank(t *testing.T) {
	x := table(t, 9, 9, 9, 0, 0)
	for _, bank := range []int{math.MinInt, -1, 0, api.Cache, 4, 5, math.MaxInt} {
		if e := x.Lay(api.Slot{Bank: bank, Cube: cube.All()}); e != api.ErrArg {
			t.Error(bank, e)
		}
	}
	wantSlots(t, "no bank", all(x))
}

// TestP113Twice: an epoch's place is held against its own bank alone, whatever else the slot is.
func TestP113Twice(t *testing.T) {
	x := table(t, 9, 9, 9, 0, 0)
	lay(t, x, api.Slot{Bank: api.Auth, Epoch: 1, At: 2, Cube: byFirst(1)})
	lay(t, x, api.Slot{Bank: api.Part, Epoch: 1, At: 2})
	lay(t, x, api.Slot{Bank: api.Auth, Epoch: 2, At: 1, Cube: byFirst(1)})
	lay(t, x, api.Slot{Bank: api.Auth, Epoch: 1, At: 1, Cube: byFirst(1)})
	lay(t, x, api.Slot{Bank: api.Auth, Epoch: 2, At: 2, Cube: byFirst(1)})
	unchanged(t, x, func() {
		for _, s := range []api.Slot{
			{Bank: api.Auth, Epoch: 1, At: 2, Cube: byFirst(1)},
			{Bank: api.Auth, Epoch: 1, At: 2, Cube: byFirst(9), Order: 3, Action: 4, One: 5, Two: 6, Born: 7, Used: 8, Count: 9},
			{Bank: api.Auth, Epoch: 2, At: 2},
			{Bank: api.Part, Epoch: 1, At: 2, Cube: byFirst(3)},
		} {
			if e := x.Lay(s); e != api.ErrTwice {
				t.Error(s, e)
			}
		}
	})
	lay(t, x, api.Slot{Bank: api.Part, Epoch: 2, At: 2})
	// What has left may come anew.
	if n := x.Keep(1, 1); n != 3 {
		t.Error(n)
	}
	lay(t, x, api.Slot{Bank: api.Auth, Epoch: 2, At: 2})
}

// TestP113First: which of two errors is told.
func TestP113First(t *testing.T) {
	x := table(t, 1, 1, 1, 0, 0)
	learn(t, x, 1, 1, cube.All(), 1)
	lay(t, x, api.Slot{Bank: api.Auth, Epoch: 1, At: 2})
	lay(t, x, api.Slot{Bank: api.Part, Epoch: 1, At: 3})
	unchanged(t, x, func() {
		for _, c := range []struct {
			s api.Slot
			e api.Errno
		}{
			{api.Slot{Bank: api.Auth, Epoch: 1, At: 2}, api.ErrTwice},
			{api.Slot{Bank: api.Auth, Epoch: 1, At: 3}, api.ErrFull},
			{api.Slot{Bank: api.Part, Epoch: 1, At: 3}, api.ErrTwice},
			{api.Slot{Bank: api.Part, Epoch: 1, At: 2}, api.ErrFull},
			{api.Slot{Bank: api.Cache, Epoch: 1, At: 0}, api.ErrArg},
			{api.Slot{Bank: 0, Epoch: 1, At: 2}, api.ErrArg},
			{api.Slot{Bank: 4, Epoch: 1, At: 2}, api.ErrArg},
		} {
			if e := x.Lay(c.s); e != c.e {
				t.Error(c, e)
			}
		}
	})
}

// full3 has a header of first byte 1 in all banks, each several times, in the epochs 1 and 2.
func full3(t *testing.T) *Table {
	t.Helper()
	x := table(t, 9, 9, 9, 0, 0)
	lay(t, x, api.Slot{Bank: api.Part, Epoch: 1, At: 1, Order: -9, Cube: cube.All(), Action: 31})
	lay(t, x, api.Slot{Bank: api.Part, Epoch: 2, At: 1, Order: 7, Cube: cube.All(), Action: 32})
	lay(t, x, api.Slot{Bank: api.Part, Epoch: 2, At: 2, Order: 5, Cube: cube.All(), Action: 33})
	lay(t, x, api.Slot{Bank: api.Part, Epoch: 2, At: 3, Order: 5, Cube: cube.All(), Action: 34})
	lay(t, x, api.Slot{Bank: api.Part, Epoch: 2, At: 4, Order: 4, Cube: byFirst(3), Action: 35})
	lay(t, x, api.Slot{Bank: api.Auth, Epoch: 1, At: 1, Order: 6, Cube: byFirst(1), Action: 21})
	lay(t, x, api.Slot{Bank: api.Auth, Epoch: 1, At: 2, Order: 5, Cube: byFirst(2), Action: 22})
	lay(t, x, api.Slot{Bank: api.Auth, Epoch: 1, At: 3, Order: 3, Cube: cube.All(), Action: 23})
	lay(t, x, api.Slot{Bank: api.Auth, Epoch: 1, At: 4, Order: 3, Cube: byFirst(1), Action: 24})
	lay(t, x, api.Slot{Bank: api.Auth, Epoch: 1, At: 5, Order: 4, Cube: byFirst(1), Action: 25})
	lay(t, x, api.Slot{Bank: api.Auth, Epoch: 2, At: 1, Order: 0, Cube: byFirst(2), Action: 26})
	learn(t, x, 4, 2, byFirst(1), 11)
	learn(t, x, 4, 1, byFirst(9), 12)
	learn(t, x, 4, 1, api.Cube{Value: api.Header{0, 3}, Mask: api.Header{0, 255}}, 13)
	learn(t, x, 4, 1, api.Cube{Value: api.Header{1, 3}, Mask: api.Header{255, 255}}, 14)
	return x
}

func TestP114Which(t *testing.T) {
	for _, c := range []struct {
		epoch  int
		h      api.Header
		action int
	}{
		{1, api.Header{1, 3}, 13},
		{1, api.Header{2, 3}, 13},
		{1, api.Header{9}, 12},
		{1, api.Header{1}, 23},
		{1, api.Header{2}, 23},
		{1, api.Header{200}, 23},
		{2, api.Header{1}, 11},
		{2, api.Header{1, 3}, 11},
		{2, api.Header{2}, 26},
		{2, api.Header{3}, 35},
		{2, api.Header{4}, 33},
		{3, api.Header{1}, -1},
		{0, api.Header{1}, -1},
		{-1, api.Header{}, -1},
		{math.MaxInt, api.Header{}, -1},
	} {
		x := full3(t)
		unchanged(t, x, func() {
			s, ok := x.Peek(c.epoch, c.h)
			if ok != (c.action >= 0) || ok && s.Action != c.action || !ok && s != (api.Slot{}) || s.Count != 0 {
				t.Error("Peek:", c, s, ok)
			}
		})
		peeked, _ := x.Peek(c.epoch, c.h)
		ahead := all(x)
		s, ok := x.Look(9, c.epoch, c.h)
		if ok != (c.action >= 0) {
			t.Error("Look:", c, s, ok)
		}
		for i := range ahead {
			if ahead[i] == peeked {
				ahead[i] = used(peeked, 9)
			}
		}
		if ok && s != used(peeked, 9) || !ok && s != (api.Slot{}) {
			t.Error("Look:", c, s, ok)
		}
		wantSlots(t, "behind Look", all(x), ahead...)
	}
}

// used is a slot that was used once more.
func used(s api.Slot, now int) api.Slot {
	s.Count++
	if s.Bank == api.Cache {
		s.Used = now
	}
	return s
}

func TestP114Empty(t *testing.T) {
	x := table(t, 0, 0, 0, 0, 0)
	if s, ok := x.Look(1, 0, api.Header{}); s != (api.Slot{}) || ok {
		t.Error(s, ok)
	}
	if s, ok := x.Peek(0, api.Header{}); s != (api.Slot{}) || ok {
		t.Error(s, ok)
	}
	wantSlots(t, "Rules", x.Rules(0))
}

// TestP114Epoch0: an epoch is any number, and the zero header and cube are ones like others.
func TestP114Epoch0(t *testing.T) {
	x := table(t, 1, 1, 1, 0, 0)
	lay(t, x, api.Slot{Bank: api.Part, One: 3})
	if s, ok := x.Peek(0, api.Header{}); s != (api.Slot{Bank: api.Part, One: 3}) || !ok {
		t.Error(s, ok)
	}
	lay(t, x, api.Slot{Bank: api.Auth, Epoch: math.MinInt, Action: 5})
	if s, ok := x.Look(1, math.MinInt, api.Header{255}); s != (api.Slot{Bank: api.Auth, Epoch: math.MinInt, Action: 5, Count: 1}) || !ok {
		t.Error(s, ok)
	}
}

// TestP114Orders: Orders of any size are held against each other as they are.
func TestP114Orders(t *testing.T) {
	for _, bank := range []int{api.Auth, api.Part} {
		x := table(t, 0, 9, 9, 0, 0)
		for i, o := range []int{math.MaxInt, 0, 5, -1, math.MinInt, math.MinInt} {
			lay(t, x, api.Slot{Bank: bank, At: i, Order: o, Action: i})
			want := []int{0, 1, 1, 3, 4, 4}[i]
			if s, ok := x.Peek(0, api.Header{7}); !ok || s.Action != want {
				t.Error(bank, i, s, ok)
			}
		}
	}
}

func TestP114Times(t *testing.T) {
	x := table(t, 1, 1, 1, 0, 0)
	learn(t, x, 7, 1, byFirst(1), 3)
	lay(t, x, api.Slot{Bank: api.Auth, Epoch: 1, Cube: byFirst(2)})
	lay(t, x, api.Slot{Bank: api.Part, Epoch: 1, Cube: byFirst(3)})
	for i, c := range [][2]int{{5, 5}, {math.MinInt, 0}, {9, 9}, {-1, 0}, {0, 0}, {1, 1}, {1<<40 - 1, 1<<40 - 1}, {1 << 40, 1 << 40}, {6, 6}, {1<<40 + 1, 1 << 40}, {math.MaxInt, 1 << 40}} {
		for bank := api.Cache; bank <= api.Part; bank++ {
			s, ok := x.Look(c[0], 1, api.Header{byte(bank)})
			want := api.Slot{Bank: bank, Epoch: 1, Cube: byFirst(byte(bank)), Count: i + 1}
			if bank == api.Cache {
				want.Action, want.Born, want.Used = 3, 7, c[1]
			}
			if s != want || !ok {
				t.Error(c, s, ok)
			}
			wantBank(t, x, bank, want)
		}
	}
}

// TestP114Bound: a Count goes up to MaxTicks. No test can look so often: the slots are given one near it.
func TestP114Bound(t *testing.T) {
	x := table(t, 1, 1, 1, 0, 0)
	learn(t, x, 7, 1, byFirst(1), 3)
	lay(t, x, api.Slot{Bank: api.Auth, Epoch: 1, Cube: byFirst(2)})
	lay(t, x, api.Slot{Bank: api.Part, Epoch: 1, Cube: byFirst(3)})
	for bank := api.Cache; bank <= api.Part; bank++ {
		x.slots[bank][0].Count = 1<<40 - 2
		for _, want := range []int{1<<40 - 1, 1 << 40, 1 << 40, 1 << 40} {
			s, ok := x.Look(8, 1, api.Header{byte(bank)})
			if s.Count != want || !ok || x.Slots(bank)[0] != s {
				t.Error(bank, want, s, ok)
			}
		}
	}
	learn(t, x, 9, 1, byFirst(1), 3)
	if s, ok := x.Peek(1, api.Header{1}); !ok || s.Count != 0 {
		t.Error(s, ok)
	}
}

func TestP114Rules(t *testing.T) {
	for _, c := range []struct {
		orders []int
		want   []int
	}{
		{nil, nil},
		{[]int{4}, []int{0}},
		{[]int{1, 2, 3}, []int{0, 1, 2}},
		{[]int{3, 2, 1}, []int{2, 1, 0}},
		{[]int{5, 5, 5}, []int{0, 1, 2}},
		{[]int{5, 1, 5, 1, 3, 5, 1}, []int{1, 3, 6, 4, 0, 2, 5}},
		{[]int{0, math.MaxInt, math.MinInt, -1}, []int{2, 3, 0, 1}},
	} {
		x := table(t, 9, 99, 99, 0, 0)
		learn(t, x, 1, 1, cube.All(), 50)
		for i, o := range c.orders {
			lay(t, x, api.Slot{Bank: api.Auth, Epoch: 2, At: i, Order: o, Action: 60})
			lay(t, x, api.Slot{Bank: api.Auth, Epoch: 1, At: i, Order: o, Action: i, Cube: byFirst(byte(i)), One: 1, Two: 2})
			lay(t, x, api.Slot{Bank: api.Part, Epoch: 1, At: i, Order: o, Action: 70})
		}
		unchanged(t, x, func() {
			l := x.Rules(1)
			wantActions(t, "Rules", l, c.want...)
			for i, s := range l {
				place := c.want[i]
				if s != (api.Slot{Bank: api.Auth, Epoch: 1, At: place, Order: c.orders[place], Action: place, Cube: byFirst(byte(place)), One: 1, Two: 2}) {
					t.Error(c, i, s)
				}
			}
			wantSlots(t, "no such epoch", x.Rules(3))
		})
	}
}

// TestP114Alike: many slots of one Order stay as they came.
func TestP114Alike(t *testing.T) {
	x := table(t, 0, 400, 0, 0, 0)
	for i := range 400 {
		lay(t, x, api.Slot{Bank: api.Auth, Epoch: 1, At: i, Order: 3 - i%4})
	}
	l := x.Rules(1)
	for i, s := range l {
		if want := i%100*4 + 3 - i/100; s.At != want {
			t.Fatal(i, s.At, want)
		}
	}
	// A rule's Count is told with it.
	x.Look(1, 1, api.Header{})
	if l := x.Rules(1); l[0].At != 3 || l[0].Count != 1 || l[1].Count != 0 {
		t.Error(l[:2])
	}
}

// epochs has two slots of each of the epochs 0 to 3 in each bank.
func epochs(t *testing.T) *Table {
	t.Helper()
	x := table(t, 9, 9, 9, 0, 0)
	for i := range 8 {
		learn(t, x, 1, i%4, byFirst(byte(i)), i)
		lay(t, x, api.Slot{Bank: api.Auth, Epoch: i % 4, At: i, Action: i})
		lay(t, x, api.Slot{Bank: api.Part, Epoch: i % 4, At: i, Action: i})
	}
	return x
}

func TestP115Keep(t *testing.T) {
	for _, c := range []struct {
		a, b, gone int
		want       []int
	}{
		{0, 1, 12, []int{0, 1, 4, 5}},
		{1, 0, 12, []int{0, 1, 4, 5}},
		{3, 2, 12, []int{2, 3, 6, 7}},
		{2, 2, 18, []int{2, 6}},
		{0, 0, 18, []int{0, 4}},
		{1, 9, 18, []int{1, 5}},
		{9, 1, 18, []int{1, 5}},
		{8, 9, 24, nil},
		{9, 9, 24, nil},
		{-1, math.MinInt, 24, nil},
		{math.MaxInt, 3, 18, []int{3, 7}},
	} {
		x := epochs(t)
		if n := x.Keep(c.a, c.b); n != c.gone {
			t.Error(c, n)
		}
		for bank := api.Cache; bank <= api.Part; bank++ {
			wantActions(t, "Keep", x.Slots(bank), c.want...)
		}
		unchanged(t, x, func() {
			if n := x.Keep(c.b, c.a); n != 0 {
				t.Error(c, n)
			}
		})
		// The room of those that left is there again.
		for i := range 9 - len(c.want) {
			learn(t, x, 2, 77, byFirst(byte(i)), 1)
			lay(t, x, api.Slot{Bank: api.Auth, Epoch: 77, At: i})
			lay(t, x, api.Slot{Bank: api.Part, Epoch: 77, At: i})
		}
	}
	x := table(t, 1, 1, 1, 0, 0)
	if n := x.Keep(1, 2); n != 0 {
		t.Error(n)
	}
}

// TestP115Sole: slots of one bank alone are counted, whichever it is.
func TestP115Sole(t *testing.T) {
	for bank := api.Cache; bank <= api.Part; bank++ {
		x := table(t, 9, 9, 9, 0, 0)
		for i := range 3 {
			if bank == api.Cache {
				learn(t, x, 1, i, byFirst(byte(i)), i)
			} else {
				lay(t, x, api.Slot{Bank: bank, Epoch: i, Action: i})
			}
		}
		if n := x.Keep(1, 5); n != 2 {
			t.Error(bank, n)
		}
		wantActions(t, "Keep", x.Slots(bank), 1)
	}
}

func TestP115Tick(t *testing.T) {
	const top = api.MaxTicks
	for _, c := range []struct {
		idle, hard, born, used int
		now                    int
		leaves                 bool
	}{
		{0, 0, 0, 0, top, false},
		{5, 0, 10, 10, 14, false},
		{5, 0, 10, 10, 15, true},
		{5, 0, 10, 10, 16, true},
		{5, 0, 10, 20, 24, false},
		{5, 0, 10, 20, 25, true},
		{5, 0, 10, 3, 7, false},
		{5, 0, 10, 3, 8, true},
		{0, 5, 10, 20, 14, false},
		{0, 5, 10, 20, 15, true},
		{0, 5, 10, 20, 16, true},
		{0, 5, 10, 3, 14, false},
		{5, 9, 10, 16, 18, false},
		{5, 9, 10, 16, 19, true},
		{5, 9, 10, 12, 16, false},
		{5, 9, 10, 12, 17, true},
		{5, 9, 10, 14, 19, true},
		{1, 0, 10, 10, 10, false},
		{1, 0, 10, 10, 11, true},
		{0, 1, 10, 10, 10, false},
		{0, 1, 10, 10, 11, true},
		{1, 1, 10, 10, 0, false},
		{1, 1, 10, 10, -1, false},
		{1, 1, 10, 10, math.MinInt, false},
		{1, 1, -5, -5, 0, false},
		{1, 1, -5, -5, 1, true},
		{top, 0, 0, 0, top - 1, false},
		{top, 0, 0, 0, top, true},
		{top, 0, 0, 0, math.MaxInt, true},
		{top, 0, 1, 1, math.MaxInt, false},
		{0, top, 0, 5, top - 1, false},
		{0, top, 0, 5, top, true},
		{0, top, 1, 1, math.MaxInt, false},
		{1, 1, top, top, math.MaxInt, false},
		{1, 1, math.MaxInt, math.MaxInt, math.MaxInt, false},
		{1, 0, top - 1, top - 1, top + 1, true},
	} {
		x := table(t, 3, 1, 1, c.idle, c.hard)
		learn(t, x, c.born, 1, byFirst(1), 1)
		lay(t, x, api.Slot{Bank: api.Auth, Epoch: 1})
		lay(t, x, api.Slot{Bank: api.Part, Epoch: 1})
		x.Look(c.used, 1, api.Header{1})
		ahead := x.Slots(api.Cache)
		got := x.Tick(c.now)
		if c.leaves {
			wantSlots(t, "Tick", got, ahead...)
			wantBank(t, x, api.Cache)
		} else {
			wantSlots(t, "Tick", got)
			wantBank(t, x, api.Cache, ahead...)
		}
		if t.Failed() {
			t.Fatal(c)
		}
		if x.Count(api.Auth) != 1 || x.Count(api.Part) != 1 {
			t.Fatal("other banks:", c)
		}
	}
}

// TestP115Order: those that leave are told in their order, and the others stay in theirs.
func TestP115Order(t *testing.T) {
	x := table(t, 9, 0, 0, 5, 9)
	for i, born := range []int{3, 9, 2, 8, 3, 1} {
		learn(t, x, born, i%2, byFirst(byte(i)), i)
	}
	x.Look(9, 0, api.Header{2})
	x.Look(9, 1, api.Header{5})
	// Of those used last at 9 the one that was born at 1 is too old by now.
	wantActions(t, "Tick", x.Tick(10), 0, 4, 5)
	wantActions(t, "those that stay", x.Slots(api.Cache), 1, 2, 3)
	wantActions(t, "Tick again", x.Tick(10))
	wantActions(t, "Tick", x.Tick(13), 2, 3)
	wantActions(t, "Tick", x.Tick(14), 1)
	wantBank(t, x, api.Cache)
	wantActions(t, "an empty cache", x.Tick(99))
}

func TestP115NoBank(t *testing.T) {
	x := epochs(t)
	for _, bank := range []int{math.MinInt, -2, -1, 0, 4, 5, math.MaxInt} {
		if n := x.Count(bank); n != 0 {
			t.Error(bank, n)
		}
		wantSlots(t, "no bank", x.Slots(bank))
	}
	for bank := api.Cache; bank <= api.Part; bank++ {
		if n := x.Count(bank); n != 8 {
			t.Error(bank, n)
		}
		l := x.Slots(bank)
		wantActions(t, "Slots", l, 0, 1, 2, 3, 4, 5, 6, 7)
		for _, s := range l {
			if s.Bank != bank {
				t.Error(bank, s)
			}
		}
	}
}
