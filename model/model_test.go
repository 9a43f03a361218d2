package model

import (
	"math"
	"slices"
	"testing"

	"milepost/api"
	"milepost/head"
	"milepost/sense"
)

// to is a policy that says one action of all headers.
func to(action int) []api.Entry {
	return []api.Entry{{Default: true, Action: action}}
}

// read is a policy as it is written.
func read(t *testing.T, text string) []api.Entry {
	t.Helper()
	l, e, at := sense.Read(text)
	if e != api.OK {
		t.Fatal(text, e, at)
	}
	return l
}

// port is a header to a port.
func port(n int) api.Header {
	return head.Make(0x0a000001, 0x01020304, 9, uint16(n), 6)
}

// far are numbers of any size.
func far() []int {
	return []int{0, 1, 2, 3, 7, -1, -2, 100, 1 << 31, 1 << 32, -1 << 32, math.MaxInt, math.MaxInt - 1, math.MinInt, math.MinInt + 1}
}

// is holds one answer against what it should be.
func is(t *testing.T, what string, got bool, want bool) {
	t.Helper()
	if got != want {
		t.Errorf("%s: %v", what, got)
	}
}

func accepts(t *testing.T, m *Model, l []api.Entry) {
	t.Helper()
	if !m.Accept(l) {
		t.Fatal("not accepted:", l)
	}
}

func commits(t *testing.T, m *Model, index int) {
	t.Helper()
	if !m.Commit(index) {
		t.Fatal("not committed:", index)
	}
}

func injects(t *testing.T, m *Model, index int, h api.Header) {
	t.Helper()
	if !m.Inject(index, h) {
		t.Fatal("not injected:", index)
	}
}

// wantMay: who may have a word.
func wantMay(t *testing.T, m *Model, index int, want ...int) {
	t.Helper()
	if got := m.May(index); !slices.Equal(got, want) {
		t.Errorf("May(%d): %v, want %v", index, got, want)
	}
}

// wantAll: how many policies were accepted and committed, and who is open.
func wantAll(t *testing.T, m *Model, accepted int, committed int, open ...int) {
	t.Helper()
	if a, c, l := m.Accepted(), m.Committed(), m.Open(); a != accepted || c != committed || !slices.Equal(l, open) {
		t.Errorf("accepted %d, committed %d, open %v, want %d, %d, %v", a, c, l, accepted, committed, open)
	}
}

// under is a model with that many policies, each of an action of its own from 1 on, all committed but perhaps the last.
func under(t *testing.T, accepted int, committed int) *Model {
	t.Helper()
	m := New()
	for i := 1; i <= accepted; i++ {
		accepts(t, m, to(i))
		if i <= committed {
			commits(t, m, i)
		}
	}
	wantAll(t, m, accepted, committed)
	return m
}

// TestExample is the chapter's.
func TestExample(t *testing.T) {
	m, h := New(), port(80)
	is(t, "Accept", m.Accept(read(t, "default -> port 1")), true)
	is(t, "Commit", m.Commit(1), true)
	is(t, "Inject", m.Inject(7, h), true)
	is(t, "Accept", m.Accept(read(t, "default -> port 2")), true)
	wantMay(t, m, 7, 1, 2)
	is(t, "Emit", m.Emit(7, 2), true)
	is(t, "Emit once more", m.Emit(7, 1), false)
	is(t, "Inject", m.Inject(8, h), true)
	is(t, "Commit", m.Commit(2), true)
	is(t, "Inject", m.Inject(9, h), true)
	wantMay(t, m, 8, 1, 2)
	wantMay(t, m, 9, 2)
	wantAll(t, m, 2, 2, 8, 9)
}

func TestNew(t *testing.T) {
	m := New()
	if m == nil {
		t.Fatal("nobody")
	}
	wantAll(t, m, 0, 0)
	for _, n := range far() {
		wantMay(t, m, n)
		is(t, "Commit", m.Commit(n), false)
		is(t, "Drop", m.Drop(n), false)
		for _, a := range far() {
			is(t, "Emit", m.Emit(n, a), false)
		}
	}
	wantAll(t, m, 0, 0)
	other := New()
	accepts(t, m, to(1))
	injects(t, m, 5, port(1))
	wantAll(t, other, 0, 0)
	wantMay(t, other, 5)
	injects(t, other, 5, port(1))
}

func TestNil(t *testing.T) {
	var m *Model
	for _, n := range far() {
		is(t, "Accept", m.Accept(to(n)), false)
		is(t, "Commit", m.Commit(n), false)
		is(t, "Inject", m.Inject(n, port(1)), false)
		is(t, "Emit", m.Emit(n, 0), false)
		is(t, "Emit", m.Emit(0, n), false)
		is(t, "Drop", m.Drop(n), false)
		wantMay(t, m, n)
		wantAll(t, m, 0, 0)
	}
	is(t, "Accept of none", m.Accept(nil), false)
}

func TestP241Accept(t *testing.T) {
	m := New()
	is(t, "the first", m.Accept(to(1)), true)
	wantAll(t, m, 1, 0)
	is(t, "the last isn't committed", m.Accept(to(2)), false)
	is(t, "nor now", m.Accept(nil), false)
	wantAll(t, m, 1, 0)
	commits(t, m, 1)
	wantAll(t, m, 1, 1)
	is(t, "behind its Commit", m.Accept(to(3)), true)
	is(t, "the second isn't committed", m.Accept(to(4)), false)
	wantAll(t, m, 2, 1)
	injects(t, m, 1, port(1))
	for _, a := range []int{0, 2, 4} {
		is(t, "what wasn't accepted says nothing", m.Emit(1, a), false)
	}
	is(t, "what was accepted does", m.Emit(1, 3), true)
}

// TestP241AcceptMany: there is no last one.
func TestP241AcceptMany(t *testing.T) {
	m := New()
	for i := 1; i <= 300; i++ {
		injects(t, m, i, port(i))
		is(t, "Accept", m.Accept(to(i)), true)
		is(t, "Accept once more", m.Accept(to(i)), false)
		wantAll(t, m, i, i-1, count(1, i)...)
		is(t, "Commit", m.Commit(i), true)
		wantAll(t, m, i, i, count(1, i)...)
	}
	for i := 1; i <= 300; i++ {
		wantMay(t, m, i, count(max(1, i-1), 300)...)
	}
}

// count is from a number to another one.
func count(from int, to int) []int {
	var l []int
	for n := from; n <= to; n++ {
		l = append(l, n)
	}
	return l
}

// TestP241AcceptOdd: each list is a policy, those too that no text comes to.
func TestP241AcceptOdd(t *testing.T) {
	odd := [][]api.Entry{
		nil,
		{},
		{{Prio: 5, SHigh: 65535, DLow: 80, DHigh: 80, Proto: -1, Action: 2}},
		{{Prio: -9, SLow: 9, SHigh: 3, Proto: 999, SrcBits: 99, DstBits: -99, Action: -5}},
		{{Default: true, Action: math.MaxInt}, {Default: true, Action: 1}},
		make([]api.Entry, 3000),
	}
	m := New()
	injects(t, m, 0, port(80))
	for i, l := range odd {
		is(t, "Accept", m.Accept(l), true)
		wantAll(t, m, i+1, i, 0)
		commits(t, m, i+1)
	}
	wantMay(t, m, 0, 1, 2, 3, 4, 5, 6)
	is(t, "no list says that", m.Emit(0, 1), false)
	is(t, "nor that", m.Emit(0, -5), false)
	is(t, "the fifth one's first Default", m.Emit(0, math.MaxInt), true)
}

// TestP241AcceptKept: what is handed in is neither kept nor changed, its spare room neither.
func TestP241AcceptKept(t *testing.T) {
	m := New()
	room := make([]api.Entry, 5)
	for i := range room {
		room[i] = api.Entry{Default: true, Action: 10 + i}
	}
	before := slices.Clone(room)
	l := room[1:2:4]
	accepts(t, m, l)
	injects(t, m, 1, port(1))
	injects(t, m, 2, port(1))
	if !slices.Equal(room, before) {
		t.Error("changed:", room)
	}
	for i := range room {
		room[i].Action = 77
	}
	is(t, "changed afterwards", m.Emit(1, 77), false)
	is(t, "as it was", m.Emit(1, 11), true)
	commits(t, m, 1)
	accepts(t, m, room[:1])
	is(t, "the second policy", m.Emit(2, 77), true)
	if room[1].Action != 77 || room[4].Action != 77 {
		t.Error("changed:", room)
	}
}

func TestP241Commit(t *testing.T) {
	m := under(t, 1, 0)
	for _, n := range far() {
		if n != 1 {
			is(t, "Commit of another one", m.Commit(n), false)
		}
	}
	wantAll(t, m, 1, 0)
	is(t, "Commit", m.Commit(1), true)
	for _, n := range far() {
		is(t, "Commit of what is committed, or isn't there", m.Commit(n), false)
	}
	wantAll(t, m, 1, 1)
	accepts(t, m, to(2))
	for _, n := range far() {
		if n != 2 {
			is(t, "Commit of another one than the second", m.Commit(n), false)
		}
	}
	wantAll(t, m, 2, 1)
	is(t, "Commit of the second", m.Commit(2), true)
	is(t, "twice", m.Commit(2), false)
	is(t, "the first once more", m.Commit(1), false)
	is(t, "one more than were accepted", m.Commit(3), false)
	wantAll(t, m, 2, 2)
}

// TestP241Falses: a false changes nothing of what may have a word.
func TestP241Falses(t *testing.T) {
	m := under(t, 3, 2)
	injects(t, m, 1, port(1))
	for range 3 {
		is(t, "Accept", m.Accept(to(9)), false)
		is(t, "Commit", m.Commit(2), false)
		is(t, "Commit", m.Commit(4), false)
	}
	wantMay(t, m, 1, 2, 3)
	injects(t, m, 2, port(1))
	wantMay(t, m, 2, 2, 3)
	is(t, "what wasn't accepted", m.Emit(1, 9), false)
	wantAll(t, m, 3, 2, 1, 2)
}

func TestP243Many(t *testing.T) {
	for accepted := range 6 {
		for _, committed := range []int{accepted - 1, accepted} {
			if committed < 0 {
				continue
			}
			m := under(t, accepted, committed)
			injects(t, m, 4, port(1))
			wantAll(t, m, accepted, committed, 4)
			wantMay(t, m, 4, count(max(1, committed), accepted)...)
		}
	}
}

// TestP243MayGrows: what may have a word grows as policies are accepted, and stays as they are committed.
func TestP243MayGrows(t *testing.T) {
	m := New()
	injects(t, m, 1, port(1)) // ahead of all
	wantMay(t, m, 1)
	accepts(t, m, to(1))
	wantMay(t, m, 1, 1)
	injects(t, m, 2, port(1)) // between the first one's Accept and Commit
	wantMay(t, m, 2, 1)
	commits(t, m, 1)
	wantMay(t, m, 1, 1)
	wantMay(t, m, 2, 1)
	injects(t, m, 3, port(1)) // behind its Commit
	wantMay(t, m, 3, 1)
	accepts(t, m, to(2))
	injects(t, m, 4, port(1))
	for _, n := range []int{1, 2, 3, 4} {
		wantMay(t, m, n, 1, 2)
	}
	commits(t, m, 2)
	injects(t, m, 5, port(1))
	wantMay(t, m, 5, 2)
	accepts(t, m, to(3))
	injects(t, m, 6, port(1))
	commits(t, m, 3)
	injects(t, m, 7, port(1))
	accepts(t, m, to(4))
	for _, n := range []int{1, 2, 3, 4} {
		wantMay(t, m, n, 1, 2, 3, 4)
	}
	wantMay(t, m, 5, 2, 3, 4)
	wantMay(t, m, 6, 2, 3, 4)
	wantMay(t, m, 7, 3, 4)
	wantAll(t, m, 4, 3, 1, 2, 3, 4, 5, 6, 7)
}

// TestP243MayNone: nobody has a word in what is over, or never came.
func TestP243MayNone(t *testing.T) {
	m := under(t, 2, 1)
	injects(t, m, 5, port(1))
	injects(t, m, 6, port(1))
	injects(t, m, 7, port(1))
	is(t, "Emit", m.Emit(5, 1), true)
	is(t, "Drop", m.Drop(6), true)
	for _, n := range append(far(), 4, 5, 6, 8) {
		if n != 7 {
			wantMay(t, m, n)
		}
	}
	wantMay(t, m, 7, 1, 2)
}

func TestP243Open(t *testing.T) {
	m := New()
	wantAll(t, m, 0, 0)
	rows := []struct {
		index int
		open  []int
	}{
		{5, []int{5}},
		{-3, []int{-3, 5}},
		{math.MaxInt, []int{-3, 5, math.MaxInt}},
		{0, []int{-3, 0, 5, math.MaxInt}},
		{math.MinInt, []int{math.MinInt, -3, 0, 5, math.MaxInt}},
		{4, []int{math.MinInt, -3, 0, 4, 5, math.MaxInt}},
	}
	for _, x := range rows {
		injects(t, m, x.index, port(1))
		wantAll(t, m, 0, 0, x.open...)
	}
	is(t, "Drop", m.Drop(0), true)
	wantAll(t, m, 0, 0, math.MinInt, -3, 4, 5, math.MaxInt)
	accepts(t, m, to(1))
	is(t, "Emit", m.Emit(math.MinInt, 1), true)
	is(t, "Emit", m.Emit(5, 1), true)
	wantAll(t, m, 1, 0, -3, 4, math.MaxInt)
	for _, n := range []int{4, math.MaxInt, -3} {
		is(t, "Drop", m.Drop(n), true)
	}
	wantAll(t, m, 1, 0)
}

// TestP243OpenRises: of many, whatever their order was.
func TestP243OpenRises(t *testing.T) {
	m := New()
	for i := range 1000 {
		injects(t, m, i*379%1000-500, port(1))
	}
	wantAll(t, m, 0, 0, count(-500, 499)...)
	for i := -500; i < 500; i += 2 {
		is(t, "Drop", m.Drop(i), true)
	}
	if l := m.Open(); len(l) != 500 || l[0] != -499 || !slices.IsSorted(l) {
		t.Error(l)
	}
}

// TestP243Memory: changing what is handed out changes nothing, and nobody changes it later.
func TestP243Memory(t *testing.T) {
	spoil := func(l []int) {
		l = l[:cap(l)]
		for i := range l {
			l[i] = -77
		}
	}
	m := under(t, 3, 2)
	for n := range 5 {
		injects(t, m, n, port(1))
	}
	a, b, c, d := m.May(1), m.May(1), m.Open(), m.Open()
	spoil(a)
	spoil(c)
	if !slices.Equal(b, []int{2, 3}) || !slices.Equal(d, count(0, 4)) {
		t.Error("shared:", b, d)
	}
	wantMay(t, m, 1, 2, 3)
	wantMay(t, m, 2, 2, 3)
	wantAll(t, m, 3, 2, 0, 1, 2, 3, 4)
	is(t, "Emit", m.Emit(0, 3), true)
	commits(t, m, 3)
	accepts(t, m, to(4))
	injects(t, m, 9, port(1))
	if !slices.Equal(b, []int{2, 3}) || !slices.Equal(d, count(0, 4)) {
		t.Error("changed later:", b, d)
	}
	wantMay(t, m, 1, 2, 3, 4)
}

// TestP244: one that came when all were committed has just the last one, till the next one is accepted.
func TestP244(t *testing.T) {
	m := New()
	for i := 1; i <= 5; i++ {
		accepts(t, m, to(i))
		commits(t, m, i)
		for _, n := range []int{10 * i, 10*i + 1} {
			injects(t, m, n, port(n))
			wantMay(t, m, n, i)
			for a := range 8 {
				if a != i {
					is(t, "another one's action", m.Emit(n, a), false)
				}
			}
		}
		is(t, "the last one's action", m.Emit(10*i, i), true)
		wantMay(t, m, 10*i+1, i)
	}
	accepts(t, m, to(6))
	for i := 1; i <= 5; i++ {
		wantMay(t, m, 10*i+1, count(i, 6)...)
	}
}
