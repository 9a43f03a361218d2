package sense

import (
	"slices"
	"strings"
	"testing"

	"milepost/api"
	"milepost/parse"
)

// The tests are named by the promises of shared/doc/07-sense.md.

const (
	least    = -1 << 63
	greatest = 1<<63 - 1
)

// plain is what a rule with no clauses means.
func plain(prio int, act int) api.Entry {
	return api.Entry{Prio: prio, SHigh: 65535, DHigh: 65535, Proto: -1, Action: act}
}

// figs are numbers with places that rise by 1.
func figs(at int, nums ...int) []api.Figure {
	var out []api.Figure
	for i, n := range nums {
		out = append(out, api.Figure{N: n, Pos: at + i})
	}
	return out
}

// clause has its Pos, and its numbers from the place behind it on.
func clause(at int, word string, nums ...int) api.Clause {
	return api.Clause{Word: word, Pos: at, Nums: figs(at+1, nums...)}
}

func slash(c api.Clause) api.Clause {
	c.Slash = true
	return c
}

func dash(c api.Clause) api.Clause {
	c.Dash = true
	return c
}

func rule(clauses ...api.Clause) api.Raw {
	return api.Raw{Pos: 1000, Prio: api.Figure{N: 5, Pos: 1001}, Clauses: clauses, Port: api.Figure{N: 7, Pos: 1002}}
}

var rest = api.Raw{Pos: 2000, Default: true, Drop: true}

// means holds what Check says of a rule, with a Default line behind it, against an entry with Prio 5 and Action 7.
func means(t *testing.T, change func(x *api.Entry), clauses ...api.Clause) {
	t.Helper()
	want := plain(5, 7)
	change(&want)
	l := []api.Raw{rule(clauses...), rest}
	if got := ask(l, 9); !same(got, answer{entries: []api.Entry{want, {Default: true}}}) {
		t.Errorf("%v: %v, not %v", clauses, got, want)
	}
	agrees(t, l, 9)
}

// refused holds what Check says of lines against an error and its place.
func refused(t *testing.T, e api.Errno, at int, l ...api.Raw) {
	t.Helper()
	if got := ask(l, 77); got.entries != nil || got.e != e || got.at != at {
		t.Errorf("Check(%v): %v, not %d, %d", l, got, e, at)
	}
	agrees(t, l, 77)
}

// says holds what Read answers for a right text.
func says(t *testing.T, s string, want ...api.Entry) {
	t.Helper()
	if got := read(s); !same(got, answer{entries: want}) {
		t.Errorf("Read(%q): %v, not %v", s, got, want)
	}
}

// fails holds what Read answers for a wrong text.
func fails(t *testing.T, s string, e api.Errno, at int) {
	t.Helper()
	if got := read(s); got.entries != nil || got.e != e || got.at != at {
		t.Errorf("Read(%.90q): %v, not %d, %d", s, got, e, at)
	}
}

func TestP71NoLines(t *testing.T) {
	for _, size := range []int{0, 1, 9, 4096, -1, -9, least, greatest} {
		for _, l := range [][]api.Raw{nil, {}} {
			if got := ask(l, size); got.entries != nil || got.e != api.ErrDefault || got.at != size {
				t.Error(size, got)
			}
		}
	}
}

func TestP71Default(t *testing.T) {
	odd := []api.Clause{clause(3, "none"), clause(4, "src", 1), clause(5, "proto", 999), clause(6, "proto", 1), clause(7, "dport", 9, 8), {}}
	for _, x := range []struct {
		line api.Raw
		act  int
	}{
		{api.Raw{Default: true, Drop: true}, 0},
		{api.Raw{Default: true, Drop: true, Port: api.Figure{N: 5}}, 0},
		{api.Raw{Default: true, Port: api.Figure{N: 1}}, 1},
		{api.Raw{Default: true, Port: api.Figure{N: 99}}, 99},
		{api.Raw{Default: true, Prio: api.Figure{N: -1}, Port: api.Figure{N: 2}}, 2},
		{api.Raw{Default: true, Prio: api.Figure{N: 65536}, Clauses: odd, Port: api.Figure{N: 3}}, 3},
		{api.Raw{Default: true, Prio: api.Figure{N: 5}, Clauses: []api.Clause{clause(1, "src", 1, 2, 3, 4), clause(2, "proto", 6)}, Drop: true}, 0},
	} {
		for _, size := range []int{0, 50, -3} {
			if got := ask([]api.Raw{x.line}, size); !same(got, answer{entries: []api.Entry{{Default: true, Action: x.act}}}) {
				t.Error(x, got)
			}
		}
	}
	// What is told of such a line is its second coming, then its port; of its other fields nothing.
	refused(t, api.ErrRange, 8, api.Raw{Pos: 2, Default: true, Clauses: odd, Port: api.Figure{N: 100, Pos: 8}})
	refused(t, api.ErrTwice, 2, rest, api.Raw{Pos: 2, Default: true, Clauses: odd, Port: api.Figure{N: 100, Pos: 8}})
	refused(t, api.ErrTwice, 2, rest, rule(), api.Raw{Pos: 2, Default: true, Drop: true}, api.Raw{Pos: 3, Default: true, Drop: true})
	refused(t, api.ErrDefault, 77, rule())
	refused(t, api.ErrDefault, 77, rule(), rule(), rule())
	// It may stand anywhere.
	for i := range 4 {
		l := slices.Insert([]api.Raw{rule(), rule(), rule()}, i, rest)
		want := slices.Insert([]api.Entry{plain(5, 7), plain(5, 7), plain(5, 7)}, i, api.Entry{Default: true})
		if got := ask(l, 77); !same(got, answer{entries: want}) {
			t.Error(i, got)
		}
	}
}

func TestP71Meanings(t *testing.T) {
	means(t, func(*api.Entry) {})
	means(t, func(x *api.Entry) { x.Src, x.SrcBits = 0x01020304, 32 }, clause(10, "src", 1, 2, 3, 4))
	means(t, func(x *api.Entry) { x.Src, x.SrcBits = 0x01020304, 8 }, slash(clause(10, "src", 1, 2, 3, 4, 8)))
	means(t, func(x *api.Entry) { x.Dst, x.DstBits = 0xfffefdfc, 32 }, clause(10, "dst", 255, 254, 253, 252))
	means(t, func(x *api.Entry) { x.Dst, x.DstBits = 0xfffefdfc, 31 }, slash(clause(10, "dst", 255, 254, 253, 252, 31)))
	means(t, func(x *api.Entry) { x.Src, x.SrcBits = 0, 32 }, clause(10, "src", 0, 0, 0, 0))
	means(t, func(x *api.Entry) { x.Src, x.SrcBits = 0, 0 }, slash(clause(10, "src", 0, 0, 0, 0, 0)))
	means(t, func(x *api.Entry) { x.Src, x.SrcBits = 0x01000000, 0 }, slash(clause(10, "src", 1, 0, 0, 0, 0)))
	means(t, func(x *api.Entry) { x.Dst, x.DstBits = 0xffffffff, 32 }, slash(clause(10, "dst", 255, 255, 255, 255, 32)))
	means(t, func(x *api.Entry) { x.SLow, x.SHigh = 80, 80 }, clause(10, "sport", 80))
	means(t, func(x *api.Entry) { x.SLow, x.SHigh = 80, 90 }, dash(clause(10, "sport", 80, 90)))
	means(t, func(x *api.Entry) { x.DLow, x.DHigh = 0, 0 }, clause(10, "dport", 0))
	means(t, func(x *api.Entry) { x.DLow, x.DHigh = 65535, 65535 }, clause(10, "dport", 65535))
	means(t, func(x *api.Entry) { x.DLow, x.DHigh = 7, 7 }, dash(clause(10, "dport", 7, 7)))
	means(t, func(*api.Entry) {}, dash(clause(10, "dport", 0, 65535)), dash(clause(20, "sport", 0, 65535)))
	means(t, func(x *api.Entry) { x.DLow, x.DHigh = 0, 1 }, dash(clause(10, "dport", 0, 1)))
	means(t, func(x *api.Entry) { x.Proto = 0 }, clause(10, "proto", 0))
	means(t, func(x *api.Entry) { x.Proto = 255 }, clause(10, "proto", 255))
	means(t, func(x *api.Entry) {
		*x = api.Entry{Prio: 5, Src: 0x0a000000, SrcBits: 8, Dst: 0x01020304, DstBits: 32, SLow: 1, SHigh: 2, DLow: 80, DHigh: 80, Proto: 6, Action: 7}
	}, clause(10, "proto", 6), clause(20, "dport", 80), dash(clause(30, "sport", 1, 2)), clause(40, "dst", 1, 2, 3, 4), slash(clause(50, "src", 10, 0, 0, 0, 8)))
}

// A sign that doesn't belong to a clause says nothing: how many numbers it must have hangs on its own sign alone.
func TestP71SignsThatDontBelong(t *testing.T) {
	means(t, func(x *api.Entry) { x.Src, x.SrcBits = 0x01020304, 32 }, dash(clause(10, "src", 1, 2, 3, 4)))
	means(t, func(x *api.Entry) { x.Dst, x.DstBits = 0x01020304, 9 }, dash(slash(clause(10, "dst", 1, 2, 3, 4, 9))))
	means(t, func(x *api.Entry) { x.SLow, x.SHigh = 5, 5 }, slash(clause(10, "sport", 5)))
	means(t, func(x *api.Entry) { x.DLow, x.DHigh = 5, 6 }, dash(slash(clause(10, "dport", 5, 6))))
	means(t, func(x *api.Entry) { x.Proto = 17 }, slash(clause(10, "proto", 17)))
	means(t, func(x *api.Entry) { x.Proto = 17 }, dash(clause(10, "proto", 17)))
	means(t, func(x *api.Entry) { x.Proto = 17 }, dash(slash(clause(10, "proto", 17))))
	refused(t, api.ErrSyntax, 10, rule(dash(clause(10, "src", 1, 2, 3, 4, 5))))
	refused(t, api.ErrSyntax, 10, rule(slash(clause(10, "sport", 5, 6))))
	refused(t, api.ErrSyntax, 10, rule(slash(clause(10, "proto", 5, 6))))
	refused(t, api.ErrSyntax, 10, rule(dash(clause(10, "proto", 5, 6))))
}

func TestP71HowManyNumbers(t *testing.T) {
	for word, form := range forms {
		for many := range 12 {
			for kind := range 4 {
				c := api.Clause{Word: word, Pos: 10, Nums: figs(20, make([]int, many)...), Slash: kind&1 != 0, Dash: kind&2 != 0}
				sign := c.Slash
				if form == [2]int{1, 2} {
					sign = c.Dash
				}
				want := form[0]
				if sign {
					want = form[1]
				}
				agrees(t, []api.Raw{rule(c), rest}, 5)
				if got := ask([]api.Raw{rule(c), rest}, 5); (got.e == api.OK) != (many == want) {
					t.Errorf("%v: %v", c, got)
				}
				if many != want {
					refused(t, api.ErrSyntax, 10, rule(c), rest)
				}
			}
		}
	}
}

func TestP71Words(t *testing.T) {
	for _, word := range []string{"", "x", "Src", "src ", " src", "srcs", "sr", "port", "drop", "default", "protocol", "sports", "s", "->", "\xff", "é", strings.Repeat("src", 1000)} {
		for many := range 7 {
			for kind := range 4 {
				c := api.Clause{Word: word, Pos: 10, Nums: figs(20, make([]int, many)...), Slash: kind&1 != 0, Dash: kind&2 != 0}
				if got := ask([]api.Raw{rule(c), rest}, 5); got.entries != nil || got.e != api.ErrSyntax || got.at != 10 {
					t.Errorf("%v: %v", c, got)
				}
			}
		}
	}
	// A word that is none is told as that, though it stands there already.
	refused(t, api.ErrSyntax, 10, rule(clause(10, "x", 1), clause(20, "x", 1)), rest)
}

func TestP71Numbers(t *testing.T) {
	beyond := func(last int) []int {
		return []int{-1, -2, -255, -65536, least, least + 1, last + 1, last + 2, 1 << 32, 1<<32 + 1, 1 << 62, greatest}
	}
	for _, n := range beyond(65535) {
		x := rule()
		x.Prio.N = n
		refused(t, api.ErrRange, 1001, x, rest)
	}
	for _, n := range []int{0, 1, 65534, 65535} {
		x := rule()
		x.Prio.N = n
		if got := ask([]api.Raw{x, rest}, 3); !same(got, answer{entries: []api.Entry{plain(n, 7), {Default: true}}}) {
			t.Error(n, got)
		}
	}
	for word, last := range lasts {
		for i, end := range last {
			for _, other := range []int{0, 1} {
				nums := make([]int, len(last))
				for k := range nums {
					nums[k] = other
				}
				lay := func(n int) api.Raw {
					nums[i] = n
					c := clause(10, word, nums...)
					if len(last) == 2 && i == 0 {
						c.Nums[1].N = max(n, other)
					}
					return rule(slash(dash(c)))
				}
				for _, n := range beyond(end) {
					refused(t, api.ErrRange, 11+i, lay(n), rest)
				}
				for _, n := range []int{other, other + 1, end - 1, end} {
					l := []api.Raw{lay(n), rest}
					if got := ask(l, 3); got.e != api.OK {
						t.Error(word, i, n, got)
					}
					agrees(t, l, 3)
				}
			}
		}
	}
}

func TestP71SecondPort(t *testing.T) {
	for _, word := range []string{"sport", "dport"} {
		for _, x := range []struct {
			low, high int
			at        int // 0: right
		}{
			{0, 0, 0}, {0, 65535, 0}, {65535, 65535, 0}, {9, 9, 0}, {8, 9, 0}, {65534, 65535, 0},
			{9, 8, 12}, {1, 0, 12}, {65535, 65534, 12}, {65535, 0, 12}, {0, -1, 12}, {5, -1, 12}, {5, 65536, 12}, {0, 65536, 12},
			{-1, 5, 11}, {-1, -1, 11}, {-1, -2, 11}, {65536, 5, 11}, {65536, 65536, 11}, {65536, 65537, 11}, {least, greatest, 11}, {greatest, least, 11}, {0, least, 12}, {0, greatest, 12},
		} {
			l := []api.Raw{rule(dash(clause(10, word, x.low, x.high))), rest}
			agrees(t, l, 3)
			if x.at > 0 {
				refused(t, api.ErrRange, x.at, l...)
			} else if got := ask(l, 3); got.e != api.OK {
				t.Error(x, got)
			}
		}
	}
}

func TestP71Twice(t *testing.T) {
	right := map[string]api.Clause{"src": clause(10, "src", 1, 2, 3, 4), "dst": clause(20, "dst", 1, 2, 3, 4), "sport": clause(30, "sport", 5), "dport": clause(40, "dport", 5), "proto": clause(50, "proto", 6)}
	for word, c := range right {
		d := c
		d.Pos = 90
		refused(t, api.ErrTwice, 90, rule(c, d), rest)
		for other, o := range right {
			if other != word {
				refused(t, api.ErrTwice, 90, rule(c, o, d), rest)
				refused(t, api.ErrTwice, 90, rule(o, c, d), rest)
				means(t, func(x *api.Entry) { *x = meant(rule(c, o)) }, c, o)
			}
		}
		// Another line has clauses of its own.
		if got := ask([]api.Raw{rule(c), rule(d), rest, rule(c)}, 3); got.e != api.OK {
			t.Error(word, got)
		}
		// With other numbers, with its sign, it is that word still; without its numbers it is told as that.
		d.Nums = figs(60, 1<<40)
		if len(c.Nums) == 4 {
			d.Nums = figs(60, 1<<40, 1, 1, 1, 1)
			d.Slash = true
		}
		refused(t, api.ErrTwice, 90, rule(c, d), rest)
		d.Nums = nil
		refused(t, api.ErrSyntax, 90, rule(c, d), rest)
	}
}

func TestP71Port(t *testing.T) {
	for _, n := range []int{0, -1, -99, 100, 101, 1000, 1 << 32, 1<<32 + 1, least, greatest} {
		x, d := rule(), api.Raw{Pos: 3, Default: true, Port: api.Figure{N: n, Pos: 44}}
		x.Port.N = n
		refused(t, api.ErrRange, 1002, x, rest)
		refused(t, api.ErrRange, 44, rule(), d)
		x.Drop, d.Drop = true, true
		if got := ask([]api.Raw{x, d}, 3); !same(got, answer{entries: []api.Entry{plain(5, 0), {Default: true}}}) {
			t.Error(n, got)
		}
	}
	for n := 1; n <= 99; n++ {
		x, d := rule(), api.Raw{Default: true, Port: api.Figure{N: n}}
		x.Port.N = n
		if got := ask([]api.Raw{x, d}, 3); !same(got, answer{entries: []api.Entry{plain(5, n), {Default: true, Action: n}}}) {
			t.Error(n, got)
		}
		x.Drop, d.Drop = true, true
		if got := ask([]api.Raw{x, d}, 3); !same(got, answer{entries: []api.Entry{plain(5, 0), {Default: true}}}) {
			t.Error(n, got)
		}
	}
}

func TestP71Many(t *testing.T) {
	full := make([]api.Raw, 64)
	for i := range full {
		full[i] = rule()
	}
	refused(t, api.ErrDefault, 77, full...)
	full[40] = rest
	if got := ask(full, 3); got.e != api.OK || len(got.entries) != 64 || got.at != 0 {
		t.Error(got)
	}
	agrees(t, full, 3)
	// What is wrong with a line beyond them isn't told, nor that a Default line stands there already.
	for _, x := range []api.Raw{{Pos: 9}, {Pos: 9, Default: true}, {Pos: 9, Prio: api.Figure{N: -1}}, {Pos: 9, Drop: true}, {Pos: 9, Clauses: []api.Clause{{Word: "x", Pos: 3}}}} {
		refused(t, api.ErrMany, 9, append(full[:64:64], x)...)
		refused(t, api.ErrMany, 9, append(full[:64:64], x, rule())...)
	}
	// What is wrong with a line ahead of them is told first; that there is no Default line at the end alone.
	bad := slices.Clone(full)
	bad[63].Port.N = 0
	refused(t, api.ErrRange, 1002, append(bad, rule())...)
	bad = slices.Clone(full)
	bad[40] = rule()
	refused(t, api.ErrMany, 2000, append(bad, rest)...)
	last := append(bad[:63:63], rest)
	if got := ask(last, 3); got.e != api.OK || len(got.entries) != 64 {
		t.Error(got)
	}
	refused(t, api.ErrMany, 0, append(last, make([]api.Raw, 100000)...)...)
}

// steps are things that are wrong, in the order in which a line's are told, each with its error and place.
var steps = []struct {
	spoil func(x *api.Raw)
	e     api.Errno
	at    int
}{
	{func(x *api.Raw) { x.Prio.N = 65536 }, api.ErrRange, 1001},
	{func(x *api.Raw) { x.Clauses[0].Word = "x" }, api.ErrSyntax, 10},
	{func(x *api.Raw) { x.Clauses[0].Nums[1].N = 256 }, api.ErrRange, 12},
	{func(x *api.Raw) { x.Clauses[0].Nums[3].N = -1 }, api.ErrRange, 14},
	{func(x *api.Raw) { x.Clauses[0].Nums[4].N = 33 }, api.ErrRange, 15},
	{func(x *api.Raw) { x.Clauses[1].Nums = x.Clauses[1].Nums[:1] }, api.ErrSyntax, 20},
	{func(x *api.Raw) { x.Clauses[1].Nums[0].N = 65536 }, api.ErrRange, 21},
	{func(x *api.Raw) { x.Clauses[1].Nums[len(x.Clauses[1].Nums)-1].N = 1 }, api.ErrRange, 22},
	{func(x *api.Raw) { x.Clauses[2].Slash = true }, api.ErrSyntax, 30},
	{func(x *api.Raw) { x.Clauses[2].Word = "src" }, api.ErrTwice, 30},
	{func(x *api.Raw) { x.Clauses[2].Nums[0].N = 1 << 20 }, api.ErrRange, 31},
	{func(x *api.Raw) { x.Clauses[3].Nums[0].N = 256 }, api.ErrRange, 41},
	{func(x *api.Raw) { x.Port.N = 100 }, api.ErrRange, 1002},
}

func whole() api.Raw {
	return rule(slash(clause(10, "src", 1, 2, 3, 4, 5)), dash(clause(20, "dport", 6, 7)), clause(30, "dst", 1, 2, 3, 4), clause(40, "proto", 8))
}

func TestP71FirstIsTold(t *testing.T) {
	if got := ask([]api.Raw{whole(), rest}, 3); got.e != api.OK {
		t.Fatal(got)
	}
	for i, a := range steps {
		x := whole()
		a.spoil(&x)
		refused(t, a.e, a.at, x, rest)
		for j, b := range steps {
			if j > i && !(i == 5 && (j == 6 || j == 7)) {
				y := deep([]api.Raw{x})[0]
				b.spoil(&y)
				refused(t, a.e, a.at, y, rest)
			}
			// In two lines the first line's is told, whichever it is.
			z := whole()
			z.Pos += 5000
			b.spoil(&z)
			refused(t, a.e, a.at, x, z, rest)
			refused(t, b.e, b.at, z, x, rest)
		}
		// A line's faults are told ahead of what a later line, or the end, has.
		refused(t, a.e, a.at, x)
		refused(t, a.e, a.at, rest, x, rest)
		refused(t, a.e, a.at, rule(), rule(), x, rule())
		refused(t, api.ErrTwice, 2000, rest, rest, x)
	}
	// A word that is wrong in more ways than one: first that it is none, or its numbers are too few; then that it stands there.
	refused(t, api.ErrSyntax, 20, rule(clause(10, "proto", 1), clause(20, "proto")), rest)
	refused(t, api.ErrTwice, 20, rule(clause(10, "proto", 1), clause(20, "proto", 256)), rest)
	refused(t, api.ErrRange, 11, rule(clause(10, "proto", 256), clause(20, "proto", 1)), rest)
}

func TestP71Model(t *testing.T) {
	n := noise(71)
	right := 0
	for range 30000 {
		l := n.lines(1 + n.below(6))
		for range n.below(4) {
			if len(l) > 0 {
				l = n.spoil(l)
			}
		}
		l = place(deep(l))
		size := n.below(100)
		agrees(t, l, size)
		if expected(l, size).e == api.OK {
			right++
		}
	}
	if right < 5000 || right > 25000 {
		t.Error(right)
	}
	for range 300 {
		agrees(t, place(n.lines(60+n.below(8))), 9)
	}
}

// Rows of any length are soon over: a fault stands near their beginning.
func TestP71LongRows(t *testing.T) {
	x := rule()
	x.Clauses = make([]api.Clause, 3000000)
	for i := range x.Clauses {
		x.Clauses[i] = api.Clause{Word: "proto", Pos: i, Nums: []api.Figure{}}
	}
	x.Clauses[0].Nums = figs(1, 6)
	if got := ask([]api.Raw{x, rest}, 3); got.e != api.ErrSyntax || got.at != 1 {
		t.Error(got.e, got.at)
	}
	x = rule(api.Clause{Word: "src", Pos: 10, Nums: make([]api.Figure, 3000000)})
	if got := ask([]api.Raw{x, rest}, 3); got.e != api.ErrSyntax || got.at != 10 {
		t.Error(got.e, got.at)
	}
}

func TestP72Examples(t *testing.T) {
	says(t, "9 dport 80 -> port 1\n9 src 10.0.0.0/8 -> port 2\ndefault -> drop",
		api.Entry{Prio: 9, SHigh: 65535, DLow: 80, DHigh: 80, Proto: -1, Action: 1},
		api.Entry{Prio: 9, Src: 10 << 24, SrcBits: 8, SHigh: 65535, DHigh: 65535, Proto: -1, Action: 2},
		api.Entry{Default: true})
	fails(t, "1 src 1.2.3.256 -> drop", api.ErrRange, 12)
	fails(t, "1 dport 9-8 -> drop", api.ErrRange, 10)
	fails(t, "1 -> drop", api.ErrDefault, 9)
	says(t, "default->port 99", api.Entry{Default: true, Action: 99})
	says(t, " # all else\n\ndefault -> port 3 # here\n7 sport 1-2 dst 1.2.3.4 proto 0 -> drop\n",
		api.Entry{Default: true, Action: 3},
		api.Entry{Prio: 7, Dst: 0x01020304, DstBits: 32, SLow: 1, SHigh: 2, DHigh: 65535, Action: 0})
}

func TestP72Refused(t *testing.T) {
	for s, at := range map[string]int{
		"65536 -> drop\ndefault -> drop":                     0,
		"4294967295 -> drop":                                 0,
		"default -> drop\n65536 -> drop":                     16,
		"1 src 256.0.0.0 -> drop":                            6,
		"1 src 0.256.0.0 -> drop":                            8,
		"1 dst 0.0.256.0 -> drop":                            10,
		"1 dst 0.0.0.256 -> drop":                            12,
		"1 src 1.2.3.4/33 -> drop":                           14,
		"1 dst 1.2.3.4/33 -> drop":                           14,
		"1 sport 65536 -> drop":                              8,
		"1 dport 65536 -> drop":                              8,
		"1 dport 0-65536 -> drop":                            10,
		"1 dport 65536-0 -> drop":                            8,
		"1 sport 1-0 -> drop":                                10,
		"1 proto 256 -> drop":                                8,
		"1 -> port 0":                                        10,
		"1 -> port 100":                                      10,
		"default -> port 0":                                  16,
		"default -> port 100":                                16,
		"default -> port 4294967295":                         16,
		"1 proto 256 sport 65536 -> port 0":                  8,
		"1 sport 65536 proto 256 -> port 0":                  8,
		"1 -> port 0\n65536 -> drop":                         10,
		"1 -> port 1\n1 -> port 0\n1 -> port 0":              22,
		"default -> port 100\ndefault -> drop":               16,
		"1 src 1.2.3.256 proto 6 -> drop\n2 -> drop":         12,
		"1 proto 6 -> drop\n2 proto 6 dport 2-1 -> port 100": 36,
	} {
		fails(t, s, api.ErrRange, at)
		fails(t, "\n"+s+"\n# x", api.ErrRange, at+1)
	}
	for s, at := range map[string]int{
		"default -> drop\ndefault -> drop":                              16,
		"default -> drop\n1 -> drop\ndefault -> port 0":                 26,
		"default -> drop\ndefault -> drop\ndefault -> drop":             16,
		"\n default -> port 5 #\n\t default -> port 100\n65536 -> drop": 24,
	} {
		fails(t, s, api.ErrTwice, at)
	}
	for _, s := range []string{"", " ", "\n\n", "# x", "1 -> drop", "1 -> drop\n\n# y", "1 -> port 1\n2 -> port 2\n3 src 1.2.3.4/0 -> port 99\n", strings.Repeat(" ", 4096)} {
		fails(t, s, api.ErrDefault, len(s))
	}
}

// What parse refuses is told as parse tells it, whatever the lines ahead mean.
func TestP72ParseRefuses(t *testing.T) {
	full := strings.Repeat("1->drop\n", 64)
	for s, want := range map[string]answer{
		"1 dst":                                     {e: api.ErrSyntax, at: 5},
		"5 dport 80 -> port":                        {e: api.ErrSyntax, at: 18},
		"5 dport 80 -> port 100\nx":                 {e: api.ErrSyntax, at: 23},
		"65536 -> drop\n1":                          {e: api.ErrSyntax, at: 15},
		"default src 1.2.3.4 -> drop":               {e: api.ErrSyntax, at: 8},
		"1 x 5 -> drop":                             {e: api.ErrSyntax, at: 2},
		"1 proto 256 proto 6 -> drop":               {e: api.ErrTwice, at: 12},
		"default->drop\ndefault->drop\n1 -> x":      {e: api.ErrSyntax, at: 33},
		full + "1->drop":                            {e: api.ErrMany, at: 512},
		full[:8*63] + "default->drop\n1->drop":      {e: api.ErrMany, at: 518},
		"65536 -> drop 01":                          {e: api.ErrNumber, at: 14},
		"65536 -> drop\n4294967296":                 {e: api.ErrNumber, at: 14},
		"65536 -> drop\n A":                         {e: api.ErrByte, at: 15},
		"1 sport -1 -> drop":                        {e: api.ErrSyntax, at: 8},
		"65536 -> drop" + strings.Repeat(" ", 4084): {e: api.ErrLong, at: 4096},
		"default -> drop\xff":                       {e: api.ErrByte, at: 15},
	} {
		fails(t, s, want.e, want.at)
		if _, e, at := parse.Parse(s); e != want.e || at != want.at {
			t.Errorf("%.80q: %d, %d", s, e, at)
		}
	}
	if got := read(full[:8*63] + "default->drop"); got.e != api.OK || len(got.entries) != 64 {
		t.Error(got)
	}
	fails(t, full, api.ErrDefault, 512)
}

func TestP72Model(t *testing.T) {
	n := noise(72)
	found := map[api.Errno]int{}
	for range 8000 {
		l := n.lines(1 + n.below(5))
		for range n.below(3) {
			if len(l) > 0 {
				l = n.spoil(l)
			}
		}
		s := parse.Print(l)
		s = s[:len(s)-n.pick(0, 0, 0, n.below(len(s)+1))]
		raws, e, at := parse.Parse(s)
		want := answer{e: e, at: at}
		if e == api.OK {
			want = expected(raws, len(s))
		}
		if got := read(s); !same(got, want) {
			t.Errorf("Read(%q): %v, not %v", s, got, want)
		}
		found[want.e]++
	}
	for _, e := range []api.Errno{api.OK, api.ErrNumber, api.ErrSyntax, api.ErrTwice, api.ErrRange, api.ErrDefault} {
		if found[e] < 20 {
			t.Error(e, found[e])
		}
	}
}

func TestCheckAnswersAreNew(t *testing.T) {
	l := place(deep([]api.Raw{whole(), rest, whole(), whole()}))
	before := deep(l)
	room := append(l[:3:4], api.Raw{Pos: 1234})[:4]
	full := deep(room)
	a, b := ask(room[:3], 3), ask(room[:3], 3)
	if len(a.entries) != 3 || !same(a, b) {
		t.Fatal(a, b)
	}
	unchanged(t, room, full)
	unchanged(t, l[:3], before[:3])
	for i := range a.entries[:cap(a.entries)] {
		a.entries[:cap(a.entries)][i] = api.Entry{Prio: -7}
	}
	if c := ask(room[:3], 3); !same(b, c) {
		t.Error("an answer shares memory:", b, c)
	}
	// Nor is what was handed in kept.
	l[0].Clauses[0].Nums[0].N = 99
	if b.entries[0].Src != 0x01020304 {
		t.Error(b)
	}
	s := strings.Repeat("7 src 1.2.3.4 -> port 5\n", 3) + "default -> drop"
	c, d := read(s), read(s)
	c.entries[0].Prio = 8
	if d.entries[0].Prio != 7 || c.entries[1].Prio != 7 {
		t.Error(c, d)
	}
	if len(c.entries) != 4 || len(d.entries) != 4 {
		t.Error(c, d)
	}
}
