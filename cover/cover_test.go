package cover

import (
	"math"
	"slices"
	"strings"
	"testing"

	"milepost/api"
)

// The tests are named by the promises of shared/doc/03-cover.md.

func below() []int {
	return []int{0, -1, -9, -1000, math.MinInt}
}

func above() []int {
	return []int{1000, 1001, 1 << 20, 1<<32 + 1, math.MaxInt}
}

func TestP31Has(t *testing.T) {
	rows := []struct {
		l    []api.Cube
		h    api.Header
		want bool
	}{
		{nil, noughts, false},
		{[]api.Cube{}, ones, false},
		{list("00", "1"), api.Header{200}, true},
		{list("00", "1"), api.Header{64}, false},
		{list("00", "1"), noughts, true},
		{list("1", "1"), noughts, false},
		{list("1", "1"), ones, true},
		{wrongs(list("*")), noughts, true},
		{wrongs(list("0*0", "11")), noughts, true},
		{wrongs(list("0*0", "11")), api.Header{32}, false},
		{[]api.Cube{{Value: ones, Mask: ones}}, ones, true},
		{[]api.Cube{{Value: ones, Mask: ones}}, api.Header{12: 1}, false},
	}
	for _, r := range rows {
		if Has(r.l, r.h) != r.want {
			t.Errorf("Has(%v, %v): %v", r.l, r.h, !r.want)
		}
	}
	eachCase(func(_ api.Cube, l []api.Cube) {
		rows := texts(l)
		for _, h := range append(all(noughts), all(ones)...) {
			if Has(l, h) != listHas(rows, h) {
				t.Errorf("Has(%v, %v): %v", l, h, Has(l, h))
			}
		}
	})
}

func TestP31Apart(t *testing.T) {
	rows := []struct {
		l    []api.Cube
		want bool
	}{
		{nil, true},
		{[]api.Cube{}, true},
		{list("*"), true},
		{wrongs(list("*")), true},
		{list("00", "01", "1"), true},
		{list("00", "0"), false},
		{list("0", "00"), false},
		{list("1", "1"), false},
		{list("00", "01", "00"), false},
		{list("00", "01", "1", "*1"), false},
		{list("0*", "*1"), false},
		{list("00", "01", "10", "11"), true},
		{wrongs(list("00", "01", "10", "11")), true},
		{[]api.Cube{right("0*"), wrong("0*")}, false},
		{[]api.Cube{right("0*"), wrong("*0")}, false},
		{list("*", "1", "0"), false},
	}
	for _, r := range rows {
		if Apart(r.l) != r.want {
			t.Errorf("Apart(%v): %v", r.l, !r.want)
		}
	}
	seen := [2]int{}
	x := noise(7)
	for range 400 {
		var l []api.Cube
		for range x.below(5) {
			l = append(l, few(&x, 3))
		}
		want := true
		for i := range l {
			for k := range i {
				want = want && !meets(letters(l[i]), letters(l[k]))
			}
		}
		if Apart(l) != want {
			t.Errorf("Apart(%v): %v", l, !want)
		}
		if want {
			seen[1]++
		} else {
			seen[0]++
		}
	}
	if seen[0] < 40 || seen[1] < 40 {
		t.Error("the lists are too much of one kind:", seen)
	}
}

// One bit parts two cubes, wherever it stands; no bit parts no two.
func TestP31ApartByOneBit(t *testing.T) {
	for i := range api.HeadBits {
		a, b := change(letters(api.Cube{}), i, "0"), change(letters(api.Cube{}), i, "1")
		if !Apart([]api.Cube{right(a), wrong(b)}) || Apart([]api.Cube{right(a), wrong(a)}) {
			t.Errorf("Apart, by bit %d", i)
		}
	}
}

func TestP32Left(t *testing.T) {
	rows := []struct {
		c    string
		l    []string
		want []string
	}{
		{"*", nil, []string{"*"}},
		{"01", nil, []string{"01"}},
		{"*", []string{"01", "1"}, []string{"00"}},
		{"*", []string{"1", "01"}, []string{"00"}},
		{"*", []string{"01"}, []string{"1", "00"}},
		{"*", []string{"01", "01"}, []string{"1", "00"}},
		{"*", []string{"01", "*0"}, []string{"11"}},
		{"*", []string{"01", "**1"}, []string{"1*0", "000"}},
		{"*", []string{"**1", "01"}, []string{"1*0", "000"}},
		{"*", []string{"00", "11"}, []string{"10", "01"}},
		{"*", []string{"11", "00"}, []string{"01", "10"}},
		{"0", []string{"1", "10", "11"}, []string{"0"}},
		{"0", []string{"1", "001", "1"}, []string{"01", "000"}},
		{"*", []string{"*"}, nil},
		{"*", []string{"0", "1"}, nil},
		{"01", []string{"0"}, nil},
		{"*", []string{"*", "01", "*"}, nil},
	}
	for _, r := range rows {
		for _, most := range append(above(), 2, 9, 999) {
			for _, c := range []api.Cube{right(r.c), wrong(r.c)} {
				for _, l := range [][]api.Cube{list(r.l...), wrongs(list(r.l...))} {
					if got, e := Left(c, l, most); e != api.OK || !slices.Equal(got, list(r.want...)) {
						t.Errorf("Left(%s, %v, %d): %v, %d", r.c, r.l, most, got, e)
					}
				}
			}
		}
	}
}

func TestP32LeftOfMany(t *testing.T) {
	pieces := 0
	eachCase(func(c api.Cube, l []api.Cube) {
		want, high := leftOf(c, l)
		pieces = max(pieces, len(want))
		if got, e := Left(c, l, high); e != api.OK || !slices.Equal(got, want) {
			t.Errorf("Left(%v, %v, %d): %v, %d", c, l, high, got, e)
		}
		if got, e := Left(c, l, high-1); e != api.ErrMany || len(got) != 0 {
			t.Errorf("Left(%v, %v, %d): %v, %d", c, l, high-1, got, e)
		}
	})
	if pieces < 10 {
		t.Error("no list leaves many pieces:", pieces)
	}
}

func refuseLeft(t *testing.T, c api.Cube, l []api.Cube, most int) {
	t.Helper()
	if got, e := Left(c, l, most); e != api.ErrMany || len(got) != 0 {
		t.Errorf("Left(%v, %v, %d): %d pieces, %d", c, l, most, len(got), e)
	}
}

func takeLeft(t *testing.T, c api.Cube, l []api.Cube, most int, pieces int) {
	t.Helper()
	if got, e := Left(c, l, most); e != api.OK || len(got) != pieces {
		t.Errorf("Left(%v, %v, %d): %d pieces, %d", c, l, most, len(got), e)
	}
}

// The cube itself is a piece at the beginning, whatever the list takes away of it.
func TestP32ManyAtTheBeginning(t *testing.T) {
	for _, most := range below() {
		refuseLeft(t, right("*"), nil, most)
		refuseLeft(t, right("*"), list("*"), most)
		refuseLeft(t, wrong("01"), list("0", "1"), most)
		refuseLeft(t, api.Cube{Mask: ones}, []api.Cube{{Mask: ones}}, most)
	}
	takeLeft(t, right("*"), nil, 1, 1)
	takeLeft(t, right("*"), list("*"), 1, 0)
	takeLeft(t, right("*"), list("0", "1"), 1, 0)
	takeLeft(t, right("0"), list("1", "1"), 1, 1)
}

func TestP32ManyBehindACube(t *testing.T) {
	refuseLeft(t, right("*"), list("01"), 1)
	takeLeft(t, right("*"), list("01"), 2, 2)
	// What stands behind in the list makes them few again: too late.
	refuseLeft(t, right("*"), list("01", "1"), 1)
	takeLeft(t, right("*"), list("01", "1"), 2, 1)
	takeLeft(t, right("*"), list("1", "01"), 1, 1)
	refuseLeft(t, right("*"), list("1", "0111", "*"), 2)
	takeLeft(t, right("*"), list("1", "0111", "*"), 3, 0)
	// The pieces that a cube takes and those that it leaves are not there at one time.
	takeLeft(t, right("*"), list("01", "10"), 2, 2)
	takeLeft(t, right("*"), list("11", "**1"), 2, 2)
	refuseLeft(t, right("*"), list("11", "**11"), 3)
	takeLeft(t, right("*"), list("11", "**11"), 4, 4)
}

func TestP32ManyAboveAThousand(t *testing.T) {
	l := thousand()
	mustLeave(t, right("*"), l, 1000)
	more := append(slices.Clone(l), oneMore())
	mustLeave(t, right("*"), more, 1001)
	behind := append(slices.Clone(more), right("*"))
	for _, most := range above() {
		takeLeft(t, right("*"), l, most, 1000)
		takeLeft(t, right("*"), append(slices.Clone(l), right("*")), most, 0)
		refuseLeft(t, right("*"), more, most)
		refuseLeft(t, right("*"), behind, most)
	}
	refuseLeft(t, right("*"), l, 999)
	for n := range l {
		pieces := 100 + 90*n
		takeLeft(t, right("*"), l[:n+1], pieces, pieces)
		refuseLeft(t, right("*"), l[:n+1], pieces-1)
		refuseLeft(t, right("*"), append(slices.Clone(l[:n+1]), right("*")), pieces-1)
	}
}

// What is handed in stays as it is, its spare room too; what is answered is new memory.
func TestP32LeftShares(t *testing.T) {
	room := append(wrongs(list("01", "1")), list("0", "1")...)
	before := slices.Clone(room)
	c := wrong("*")
	for _, l := range [][]api.Cube{nil, room[:0], room[:1], room[:2]} {
		first, _ := Left(c, l, 9)
		second, _ := Left(c, l, 9)
		want := slices.Clone(second)
		first = first[:cap(first)]
		for i := range first {
			first[i] = right("1010")
		}
		if !slices.Equal(second, want) || !slices.Equal(room, before) || c != wrong("*") {
			t.Errorf("Left of %d cubes: an answer shares memory", len(l))
		}
	}
	Covers(room[:2], c, 9)
	Outside(c, room[:2], 9)
	Same(room[:2], room[1:3], 9)
	Apart(room[:2])
	Has(room[:2], ones)
	if !slices.Equal(room, before) {
		t.Error("what was handed in has changed")
	}
}

func TestP33Covers(t *testing.T) {
	rows := []struct {
		l    []string
		c    string
		want bool
	}{
		{nil, "*", false},
		{nil, strings.Repeat("1", 104), false},
		{[]string{"0", "1"}, "*", true},
		{[]string{"0"}, "*", false},
		{[]string{"1"}, "0", false},
		{[]string{"*"}, "*", true},
		{[]string{"00", "01", "1"}, "*", true},
		{[]string{"00", "01"}, "0", true},
		{[]string{"00", "01"}, "*", false},
		{[]string{"0*", "*1", "10"}, "*", true},
		{[]string{"0*", "*1", "101"}, "*", false},
		{[]string{"0", "0"}, "*", false},
		{[]string{"0", "0", "1"}, "*", true},
		{[]string{strings.Repeat("0", 103)}, strings.Repeat("0", 104), true},
		{[]string{strings.Repeat("0", 104)}, strings.Repeat("0", 103), false},
		{[]string{strings.Repeat("0", 104), strings.Repeat("0", 103) + "1"}, strings.Repeat("0", 103), true},
	}
	for _, r := range rows {
		for _, l := range [][]api.Cube{list(r.l...), wrongs(list(r.l...))} {
			for _, c := range []api.Cube{right(r.c), wrong(r.c)} {
				if ok, e := Covers(l, c, 9); ok != r.want || e != api.OK {
					t.Errorf("Covers(%v, %s, 9): %v, %d", r.l, r.c, ok, e)
				}
			}
		}
	}
}

func TestP33CoversErr(t *testing.T) {
	refuse := func(l []api.Cube, c api.Cube, most int) {
		t.Helper()
		if ok, e := Covers(l, c, most); ok || e != api.ErrMany {
			t.Errorf("Covers(%v, %v, %d): %v, %d", l, c, most, ok, e)
		}
	}
	for _, most := range below() {
		refuse(nil, right("*"), most)
		refuse(list("*"), right("*"), most)
	}
	refuse(list("01"), right("*"), 1)
	refuse(list("01", "*"), right("*"), 1)
	if ok, e := Covers(list("*", "01"), right("*"), 1); !ok || e != api.OK {
		t.Error("Covers([*, 01], *, 1):", ok, e)
	}
	l := append(thousand(), right("*"))
	more := append(thousand(), oneMore(), right("*"))
	for _, most := range above() {
		if ok, e := Covers(l, right("*"), most); !ok || e != api.OK {
			t.Errorf("Covers of a thousand pieces, %d: %v, %d", most, ok, e)
		}
		refuse(more, right("*"), most)
	}
	refuse(l, right("*"), 999)
}

func TestP33Outside(t *testing.T) {
	rows := []struct {
		c    string
		l    []string
		want api.Header
		ok   bool
	}{
		{"*", nil, noughts, true},
		{"01", nil, api.Header{64}, true},
		{"*", []string{"0"}, api.Header{128}, true},
		{"*", []string{"1"}, noughts, true},
		{"*", []string{"01"}, noughts, true},               // it stands in the second piece
		{"*", []string{"000", "10"}, api.Header{32}, true}, // in the last one
		{"*", []string{"00", "11"}, api.Header{64}, true},
		{"*", []string{"11", "00"}, api.Header{64}, true},
		{"**1", []string{"0"}, api.Header{160}, true},
		{"1", []string{"0", "01"}, api.Header{128}, true},
		{"*", []string{strings.Repeat("0", 104)}, api.Header{12: 1}, true},
		{strings.Repeat("1", 104), nil, ones, true},
		{"*", []string{"0", "1"}, noughts, false},
		{"*", []string{"*"}, noughts, false},
		{"11", []string{"1"}, noughts, false},
		{"11", []string{"110", "111"}, noughts, false},
	}
	for _, r := range rows {
		for _, l := range [][]api.Cube{list(r.l...), wrongs(list(r.l...))} {
			for _, c := range []api.Cube{right(r.c), wrong(r.c)} {
				if h, ok, e := Outside(c, l, 104); h != r.want || ok != r.ok || e != api.OK {
					t.Errorf("Outside(%s, %v, 104): %v, %v, %d", r.c, r.l, h, ok, e)
				}
			}
		}
	}
}

func TestP33OutsideErr(t *testing.T) {
	refuse := func(c api.Cube, l []api.Cube, most int) {
		t.Helper()
		if h, ok, e := Outside(c, l, most); h != noughts || ok || e != api.ErrMany {
			t.Errorf("Outside(%v, %v, %d): %v, %v, %d", c, l, most, h, ok, e)
		}
	}
	for _, most := range below() {
		refuse(right("1"), nil, most)
		refuse(right("1"), list("*"), most)
	}
	refuse(right("1"), list("111"), 1)
	refuse(right("1"), list("111", "10"), 1)
	if h, ok, e := Outside(right("1"), list("111", "10"), 2); h != (api.Header{192}) || !ok || e != api.OK {
		t.Error("Outside(1, [111, 10], 2):", h, ok, e)
	}
	for _, most := range above() {
		if h, ok, e := Outside(right("*"), thousand(), most); h != noughts || !ok || e != api.OK {
			t.Errorf("Outside of a thousand pieces, %d: %v, %v, %d", most, h, ok, e)
		}
		refuse(right("*"), append(thousand(), oneMore()), most)
	}
	refuse(right("*"), thousand(), 999)
}

// The least header is held against all that the cubes of few bits can tell apart.
func TestP33ByHeaders(t *testing.T) {
	seen := [2]int{}
	eachCase(func(c api.Cube, l []api.Cube) {
		s, rows := letters(c), texts(l)
		var want api.Header
		found := false
		for _, h := range all(noughts) {
			if fits(s, h) && !listHas(rows, h) {
				want, found = h, true
				break
			}
		}
		if h, ok, e := Outside(c, l, 1000); h != want || ok != found || e != api.OK {
			t.Errorf("Outside(%v, %v): %v, %v, %d", c, l, h, ok, e)
		}
		if ok, e := Covers(l, c, 1000); ok == found || e != api.OK {
			t.Errorf("Covers(%v, %v): %v, %d", l, c, ok, e)
		}
		if found {
			seen[1]++
		} else {
			seen[0]++
		}
	})
	if seen[0] < 20 || seen[1] < 100 {
		t.Error("the lists are too much of one kind:", seen)
	}
}

func TestP34Same(t *testing.T) {
	rows := []struct {
		a, b []string
		want bool
	}{
		{nil, nil, true},
		{nil, []string{"1"}, false},
		{[]string{"1"}, nil, false},
		{[]string{"00", "01"}, []string{"0"}, true},
		{[]string{"00"}, []string{"0"}, false},
		{[]string{"0"}, []string{"00"}, false},
		{[]string{"0", "1"}, []string{"*"}, true},
		{[]string{"0", "1"}, []string{"*0", "*1"}, true},
		{[]string{"0", "0"}, []string{"0"}, true},
		{[]string{"0", "0", "00"}, []string{"01", "00", "01"}, true},
		{[]string{"0", "11"}, []string{"0", "*1"}, true},
		{[]string{"0", "11"}, []string{"0", "1"}, false},
		{[]string{"0", "1"}, []string{"0", "11"}, false},
		{[]string{"0"}, []string{"1"}, false},
		{[]string{strings.Repeat("1", 104)}, []string{strings.Repeat("1", 103)}, false},
	}
	for _, r := range rows {
		a, b := list(r.a...), list(r.b...)
		for _, p := range [][2][]api.Cube{{a, b}, {wrongs(a), b}, {a, wrongs(b)}, {wrongs(a), wrongs(b)}} {
			if ok, e := Same(p[0], p[1], 9); ok != r.want || e != api.OK {
				t.Errorf("Same(%v, %v, 9): %v, %d", r.a, r.b, ok, e)
			}
		}
	}
}

// Two lists of few bits are the same, if no header that these bits tell apart stands in one alone.
func TestP34ByHeaders(t *testing.T) {
	seen := [2]int{}
	ask := func(a, b []api.Cube) {
		want, rows, others := true, texts(a), texts(b)
		for _, h := range all(noughts) {
			want = want && listHas(rows, h) == listHas(others, h)
		}
		for _, p := range [][2][]api.Cube{{a, b}, {b, a}} {
			if ok, e := Same(p[0], p[1], 1000); ok != want || e != api.OK {
				t.Errorf("Same(%v, %v): %v, %d", p[0], p[1], ok, e)
			}
		}
		if want {
			seen[1]++
		} else {
			seen[0]++
		}
	}
	eachCase(func(c api.Cube, l []api.Cube) {
		// A cube is the same as what a list leaves of it and its parts that the list's cubes have.
		parts, _ := Left(c, l, 1000)
		ask(parts, []api.Cube{c})
		for _, b := range l {
			if p, ok := both(letters(c), letters(b)); ok {
				parts = append(parts, right(p))
			}
		}
		ask(parts, []api.Cube{c})
		ask(l, append([]api.Cube{c}, l...))
	})
	if seen[0] < 100 || seen[1] < 100 {
		t.Error("the lists are too much of one kind:", seen)
	}
}

// both reckons by letters what two cubes have together.
func both(s string, r string) (string, bool) {
	if !meets(s, r) {
		return "", false
	}
	out := []byte(s)
	for i := range out {
		if s[i] == '*' {
			out[i] = r[i]
		}
	}
	return string(out), true
}

func TestP34SameErr(t *testing.T) {
	rows := []struct {
		name string
		a, b []api.Cube
		most int
		ok   bool
		e    api.Errno
	}{
		{"no cube is asked for", nil, nil, 0, true, api.OK},
		{"no cube is asked for, below 0", []api.Cube{}, nil, -1, true, api.OK},
		{"the first list's question errs at the beginning", list("0"), nil, 0, false, api.ErrMany},
		{"the second's", nil, list("0"), 0, false, api.ErrMany},
		{"the first list's question errs", list("*"), list("01", "*"), 1, false, api.ErrMany},
		{"just as many pieces there", list("*"), list("01", "*"), 2, true, api.OK},
		{"the second list's question errs", list("01", "*"), list("*"), 1, false, api.ErrMany},
		{"just as many pieces, the other way", list("01", "*"), list("*"), 2, true, api.OK},
		{"the first list's second cube errs", list("1", "*"), list("1", "001", "*"), 1, false, api.ErrMany},
		{"a cube that isn't covered stands ahead of one that errs", list("10", "0"), list("000"), 1, false, api.OK},
		{"one that errs stands ahead of it", list("0", "10"), list("000"), 1, false, api.ErrMany},
		{"the first list isn't covered: the second, which would err, isn't asked", list("*11"), list("0"), 1, false, api.OK},
		{"the other way round, the one that errs is asked first", list("0"), list("*11"), 1, false, api.ErrMany},
		{"a cube of the second isn't covered ahead of one that errs", list("01"), list("10", "*", "01"), 1, false, api.OK},
		{"one of the second that errs stands ahead of it", list("01"), list("*", "10"), 1, false, api.ErrMany},
	}
	for _, r := range rows {
		if ok, e := Same(r.a, r.b, r.most); ok != r.ok || e != r.e {
			t.Errorf("%s: Same(%v, %v, %d): %v, %d", r.name, texts(r.a), texts(r.b), r.most, ok, e)
		}
	}
}

func TestP34SameAboveAThousand(t *testing.T) {
	l := append(thousand(), right("*"))
	more := append(thousand(), oneMore(), right("*"))
	for _, most := range above() {
		if ok, e := Same(l, list("*"), most); !ok || e != api.OK {
			t.Errorf("a thousand pieces, %d: %v, %d", most, ok, e)
		}
		if ok, e := Same(list("*"), more, most); ok || e != api.ErrMany {
			t.Errorf("one more, asked first, %d: %v, %d", most, ok, e)
		}
		if ok, e := Same(more, list("*"), most); ok || e != api.ErrMany {
			t.Errorf("one more, asked second, %d: %v, %d", most, ok, e)
		}
	}
}

func TestP35Pieces(t *testing.T) {
	eachCase(func(c api.Cube, l []api.Cube) {
		pieces, e := Left(c, l, 1000)
		if e != api.OK || !Apart(pieces) {
			t.Errorf("Left(%v, %v): %v, %d", c, l, pieces, e)
		}
		s, rows, parts := letters(c), texts(l), texts(pieces)
		for _, h := range append(all(noughts), all(ones)...) {
			have, want := 0, 0
			for _, p := range parts {
				if fits(p, h) {
					have++
				}
			}
			if fits(s, h) && !listHas(rows, h) {
				want = 1
			}
			if have != want {
				t.Errorf("Left(%v, %v): %d pieces have %v, not %d", c, l, have, h, want)
			}
		}
	})
}

func TestP35ManyPieces(t *testing.T) {
	l := thousand()
	pieces, e := Left(right("*"), l, 1000)
	if e != api.OK || len(pieces) != 1000 || !Apart(pieces) || !Apart(append(slices.Clone(pieces), l...)) {
		t.Errorf("a thousand pieces: %d, %d", len(pieces), e)
	}
	x := noise(9)
	for range 200 { // each header stands in the list, or in one piece
		var h api.Header
		for i := range h {
			h[i] = x.next() | x.next() | x.next()
		}
		have := 0
		for _, s := range append(texts(l), texts(pieces)...) {
			if fits(s, h) {
				have++
			}
		}
		if have != 1 {
			t.Errorf("%d cubes have %v", have, h)
		}
	}
	for _, p := range pieces {
		if p != right(letters(p)) {
			t.Fatalf("a piece is not right: %v", p)
		}
	}
}
