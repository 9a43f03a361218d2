package plan

import (
	"math"
	"slices"
	"testing"

	"milepost/api"
	"milepost/cube"
)

// made is what is handed to Make, and what is asked of it, in short.
type made struct {
	l       []api.Rule
	s       api.Setup
	live    []int
	weights []float64
	want    string
}

func checkAll(t *testing.T, l []made) {
	t.Helper()
	for _, c := range l {
		got, e := Make(c.l, c.s, c.live, c.weights)
		if x := show(got, e); x != c.want {
			t.Errorf("Make(%d rules, %+v, %v, %v): %s, not %s", len(c.l), c.s, c.live, c.weights, x, c.want)
		}
		if e != api.OK && len(got) != 0 {
			t.Error("leaves beside an error:", show(got, e))
		}
		follows(t, c.l, c.s, c.live, got, e)
	}
}

// follows holds P14.4 against an answer: what is told fits, and ErrBank has its cause.
func follows(t *testing.T, l []api.Rule, s api.Setup, live []int, got []api.Leaf, e api.Errno) {
	t.Helper()
	counts := slices.ContainsFunc(live, func(n int) bool { return n > 0 && n <= s.Authorities })
	switch {
	case e == api.OK && (!Fits(got, s) || !fitsOf(got, s)):
		t.Errorf("it doesn't fit into %+v: %s", s, show(got, e))
	case e == api.ErrBank && counts && 2*len(l) <= s.Auth:
		t.Errorf("%d rules have room in %+v, and %v count", len(l), s, live)
	case e == api.OK && !counts:
		t.Errorf("nobody is there, but there are holders: %s", show(got, e))
	case e != api.OK && e != api.ErrBank && e != api.ErrArg, (e == api.ErrArg) == rightOf(s):
		t.Errorf("%d with %+v", e, s)
	}
}

// fork has three rules that come to two in each of two leaves.
func fork() []api.Rule {
	return rules("00", "10", "*")
}

// quarters have a rule for each front of two bits.
func quarters() []api.Rule {
	return rules("00", "01", "10", "11")
}

func TestP142Examples(t *testing.T) {
	two, s := rules("0", "*"), rooms(4, 2)
	for a := 1; a <= 6; a++ {
		for b := 1; b <= 6; b++ {
			if a == b {
				continue
			}
			want := show([]api.Leaf{{One: min(a, b), Two: max(a, b), Rules: two}}, api.OK)
			checkAll(t, []made{{two, s, []int{a, b}, nil, want}})
		}
	}
	checkAll(t, []made{
		{fork(), s, []int{1, 2, 3, 4, 5, 6}, nil, "15"},
		{rules("00", "01", "11"), s, []int{1, 2}, nil, "15"},
		// One that can be trimmed goes.
		{rules("0", "01", "*"), s, []int{1, 2}, nil, "0 :1+2,70,64"},
	})
}

func TestP142WrongSetup(t *testing.T) {
	for _, f := range fields() {
		for _, n := range []int{f.least - 1, f.most + 1} {
			s := middle()
			*f.of(&s) = n
			// It is told ahead of all other errors.
			for _, live := range [][]int{nil, {9}, {1, 2}} {
				checkAll(t, []made{{nil, s, live, nil, "1"}, {fork(), s, live, nil, "1"}, {heap(300), s, live, []float64{nan}, "1"}})
			}
		}
	}
	checkAll(t, []made{{fork(), api.Setup{}, []int{1, 2}, nil, "1"}})
}

func TestP142NoRules(t *testing.T) {
	for _, l := range [][]api.Rule{nil, {}} {
		for _, s := range []api.Setup{small(), rooms(2, 2), rooms(3, 3), rooms(2048, 64)} {
			checkAll(t, []made{
				{l, s, []int{3, 5}, nil, "0 :3+5"},
				{l, s, []int{2}, nil, "0 :2+0"},
				{l, s, nil, nil, "15"},
				// What costs nothing is alike, whatever the weights are.
				{l, s, []int{1, 2, 3}, []float64{9, 1, 0}, "0 :1+2"},
			})
		}
	}
}

func TestP142Live(t *testing.T) {
	s := rooms(8, 4)
	s.Authorities = 4
	both := "0 0:1+2,70,64 1:3+4,67,64"
	checkAll(t, []made{
		{fork(), s, []int{1, 2, 3, 4}, nil, both},
		// Those below 1 and above Authorities don't count, though they be switches.
		{fork(), s, []int{0, 1, 5, 2, 6, 3, -1, 4, 7, math.MaxInt, math.MinInt}, nil, both},
		// The order says nothing, nor how often somebody stands there.
		{fork(), s, []int{4, 3, 3, 2, 4, 1, 1, 4}, nil, both},
		{fork(), s, []int{2, 2, 4, 2, 4}, nil, "0 0:2+4,70,64 1:2+4,67,64"},
		{fork(), s, []int{4, 5}, nil, "0 0:4+0,70,64 1:4+0,67,64"},
		{fork(), s, []int{5, 1, 6}, nil, "0 0:1+0,70,64 1:1+0,67,64"},
		{fork(), s, []int{0, 3, 3}, nil, "0 0:3+0,70,64 1:3+0,67,64"},
		// None that counts.
		{fork(), s, nil, nil, "15"},
		{fork(), s, []int{}, nil, "15"},
		{fork(), s, []int{0}, nil, "15"},
		{fork(), s, []int{5}, nil, "15"},
		{fork(), s, []int{-1, 0, 5, 6, 7}, nil, "15"},
		{rules("*"), s, []int{math.MinInt, 1 << 32, 1<<32 + 1}, nil, "15"},
	})
	for a := 2; a <= 6; a++ {
		s.Authorities = a
		checkAll(t, []made{
			{rules("*"), s, []int{a}, nil, show([]api.Leaf{{One: a, Rules: rules("*")}}, api.OK)},
			{rules("*"), s, []int{a + 1}, nil, "15"},
			{rules("*"), s, []int{a + 1, a}, nil, show([]api.Leaf{{One: a, Rules: rules("*")}}, api.OK)},
		})
	}
}

func TestP142Weights(t *testing.T) {
	s, l, live := rooms(4, 2), rules("0", "*"), []int{1, 2, 3}
	checkAll(t, []made{
		// Fewer than the numbers ask for: the others have 0.
		{l, s, live, nil, "0 :1+2,70,67"},
		{l, s, live, []float64{1}, "0 :2+3,70,67"},
		{l, s, live, []float64{1, 1}, "0 :3+1,70,67"},
		{l, s, live, []float64{1, 0.5}, "0 :3+2,70,67"},
		// A weight stands at its number less 1, whoever is there; those behind say nothing.
		{l, s, []int{2, 4, 6}, []float64{9, 2, 9, 1, 9, 3, 0, 0}, "0 :4+2,70,67"},
		{l, s, []int{0, 7, 2, 4}, []float64{9, 2, 9, 1, 9, 3, 0, 0}, "0 :4+2,70,67"},
		// Below 0, or no number: as 0.
		{l, s, live, []float64{0.5, -1, -inf}, "0 :2+3,70,67"},
		{l, s, live, []float64{1, nan, 0.5}, "0 :2+3,70,67"},
		// Infinite.
		{l, s, live, []float64{inf, 5, inf}, "0 :2+1,70,67"},
		{l, s, live, []float64{inf, inf, 1e300}, "0 :3+1,70,67"},
		{l, s, []int{3}, []float64{0, 0, inf}, "0 :3+0,70,67"},
		{l, s, []int{3}, []float64{0, 0, nan}, "0 :3+0,70,67"},
		// Of several leaves, too; and where the one leaf is left.
		{fork(), rooms(12, 4), live, []float64{9, 0, 0}, "0 0:2+3,70,64 1:2+3,67,64"},
		{fork(), small(), live, []float64{9, 0, 0}, "0 :2+3,70,67,64"},
	})
}

func TestP142Fallback(t *testing.T) {
	checkAll(t, []made{
		// Two leaves of two rules each have room with four authorities, not with fewer: there the table stays whole.
		{fork(), small(), []int{1, 2, 3, 4}, nil, "0 0:1+2,70,64 1:3+4,67,64"},
		{fork(), small(), []int{1, 2, 3}, nil, "0 :1+2,70,67,64"},
		{fork(), small(), []int{5, 2}, nil, "0 :2+5,70,67,64"},
		{fork(), small(), []int{5}, nil, "0 :5+0,70,67,64"},
		{fork(), rooms(8, 4), []int{5, 2}, nil, "0 0:2+5,70,64 1:2+5,67,64"},
		{fork(), rooms(8, 4), []int{5}, nil, "0 0:5+0,70,64 1:5+0,67,64"},
		// Neither: with so little room not the one leaf.
		{fork(), rooms(5, 4), []int{1, 2}, nil, "15"},
		{fork(), rooms(4, 4), []int{5}, nil, "15"},
		// The leaves have room where the whole table hasn't.
		{fork(), rooms(4, 4), []int{1, 2, 3, 4}, nil, "0 0:1+2,70,64 1:3+4,67,64"},
		{fork(), rooms(4, 4), []int{1, 2, 3}, nil, "15"},
		{quarters(), rooms(4, 8), []int{1, 2, 3, 4}, nil, "0 00:1+2,70 01:3+4,67 10:1+2,64 11:3+4,61"},
		{quarters(), rooms(4, 8), []int{1, 2, 3}, nil, "15"},
		{quarters(), rooms(6, 8), []int{1, 2, 3}, nil, "0 00:1+2,70 01:3+1,67 10:2+3,64 11:1+2,61"},
		{quarters(), rooms(8, 8), []int{1}, nil, "0 00:1+0,70 01:1+0,67 10:1+0,64 11:1+0,61"},
		{quarters(), rooms(7, 8), []int{1}, nil, "15"},
		// One leaf from the beginning, for that no two may be.
		{quarters(), rooms(8, 2), []int{1, 2}, nil, "0 :1+2,70,67,64,61"},
		{quarters(), rooms(6, 2), []int{1, 2, 3, 4, 5, 6}, nil, "15"},
	})
	// The list has too many rules, but what is left when they are trimmed has room.
	checkAll(t, []made{
		{rules("0", "00", "01", "000", "*", "1"), rooms(4, 2), []int{1, 2}, nil, "0 :1+2,70,58"},
		{rules("*", "0", "1"), rooms(2, 2), []int{2, 1}, nil, "0 :1+2,70"},
	})
}

func TestP142Odd(t *testing.T) {
	live := []int{1, 2, 3, 4, 5, 6}
	one, two := "0 :1+2,70,67,64,61", "0 0:1+2,70,67 1:3+4,64,61"
	three, four := "0 00:3+4,70 01:5+6,67 1:1+2,64,61", "0 00:1+2,70 01:3+4,67 10:5+6,64 11:1+2,61"
	for part, want := range []string{2: one, 3: one, 4: two, 5: two, 6: three, 7: three, 8: four, 9: four, 10: four, 63: four, 64: four} {
		if part < 2 || want == "" {
			continue
		}
		checkAll(t, []made{{quarters(), rooms(100, part), live, nil, want}})
	}
	for auth := 2; auth < 20; auth++ {
		want := "0 :1+2,70,67,64"
		if auth < 6 {
			want = "15"
		}
		checkAll(t, []made{{fork(), rooms(auth, 2), live, nil, want}, {fork(), rooms(auth, 3), live, nil, want}})
	}
	checkAll(t, []made{
		{rules("*"), rooms(2, 2), []int{1, 2}, nil, "0 :1+2,70"},
		{rules("*"), rooms(3, 3), []int{1, 2}, nil, "0 :1+2,70"},
		{rules("0", "*"), rooms(3, 3), []int{1, 2}, nil, "15"},
		{rules("0", "*"), rooms(3, 5), []int{1, 2, 3, 4}, nil, "0 0:1+2,70 1:3+4,67"},
		{rules("0", "*"), rooms(3, 5), []int{1, 2, 3}, nil, "15"},
		{rules("0", "*"), rooms(5, 5), []int{1, 2, 3}, nil, "0 0:1+2,70 1:3+1,67"},
	})
}

// Grain and Bias go along to the tree.
func TestP142GrainAndBias(t *testing.T) {
	live := []int{1, 2, 3, 4, 5, 6}
	for grain, want := range []string{1: "0 00:1+2,70 01:3+4,67 10:5+6,64 11:1+2,61", 2: "0 0:1+2,70,67 1:3+4,64,61", 3: "0 0:1+2,70,67 1:3+4,64,61", 4: "0 :1+2,70,67,64,61", 512: "0 :1+2,70,67,64,61"} {
		if want == "" {
			continue
		}
		s := rooms(100, 64)
		s.Grain = grain
		checkAll(t, []made{{quarters(), s, live, nil, want}})
	}
	l := rules("00*0", "00*1", "10*0", "10*1", "*1")
	for _, bias := range []float64{0, 0.5, -9, nan, inf, -inf} {
		s := rooms(100, 4)
		s.Bias = bias
		checkAll(t, []made{{l, s, live, nil, "0 0:1+2,70,67,58 1:3+4,64,61,58"}})
	}
	for _, bias := range []float64{1.5, 2, 1e300} {
		s := rooms(100, 4)
		s.Bias = bias
		checkAll(t, []made{{l, s, live, nil, "0 *0:1+2,70,67,64,61 *1:3+4,58"}})
	}
}

// Other fields of the setup say nothing.
func TestP142OtherFields(t *testing.T) {
	want := "0 0:1+2,70,64 1:3+4,67,64"
	for _, f := range fields() {
		switch f.name {
		case "Auth", "Part", "Authorities", "Grain":
			continue
		}
		for _, n := range []int{f.least, f.most} {
			s := middle()
			s.Switches, s.Authorities, s.Auth, s.Part, s.Grain = 6, 4, 6, 4, 1
			*f.of(&s) = n
			if !rightOf(s) {
				continue
			}
			checkAll(t, []made{{fork(), s, []int{1, 2, 3, 4, 5}, nil, want}})
		}
	}
}

// Of any inputs it is what the words say, and what follows holds; all outcomes are met often.
func TestP142Reckoned(t *testing.T) {
	x := noise(142)
	tree, whole, bank, half := 0, 0, 0, 0
	for n := range 6000 {
		l, s := x.list(n%14), x.setup()
		live, weights := x.numbers(x.below(9)), x.weights(x.below(8))
		got, e := Make(l, s, live, weights)
		want, bad := makeOf(l, s, live, weights)
		if e != bad || !same(got, want) {
			t.Fatalf("Make(%d rules, %+v, %v, %v): %s, not %s", len(l), s, live, weights, show(got, e), show(want, bad))
		}
		follows(t, l, s, live, got, e)
		switch cuts, _ := Make(l, rooms(2048, s.Part), []int{1}, nil); {
		case len(got) > 1:
			tree++
		case e == api.ErrBank:
			bank++
		case len(cuts) > 1:
			whole++
		}
		if len(got) > 0 && got[0].Two == 0 {
			half++
		}
	}
	if tree < 500 || whole < 300 || bank < 500 || half < 300 {
		t.Error("too few of a kind:", tree, whole, bank, half)
	}
}

// A table as great as one may be, with as much room as there may be, and with just enough.
func TestP142Great(t *testing.T) {
	l := heap(api.MaxFlat)
	for _, c := range []struct {
		auth, part int
		live       []int
		leaves     int
	}{
		{2048, 64, []int{1, 2, 3, 4, 5, 6}, 32},
		{2048, 2, []int{1, 2}, 1},
		{1024, 64, []int{1, 2}, 32},
		{1023, 64, []int{1, 2}, 0},
		{1024, 3, []int{4}, 1},
		{1023, 3, []int{4}, 0},
		{512, 64, []int{1, 2, 3, 4}, 32},
	} {
		s := rooms(c.auth, c.part)
		got, e := Make(l, s, c.live, nil)
		if len(got) != c.leaves || (e == api.OK) != (c.leaves > 0) || e != api.OK && e != api.ErrBank {
			t.Error(c, len(got), e)
		}
		follows(t, l, s, c.live, got, e)
	}
}

// headers are one for each way in which the spots may stand, with two ways for all other bits.
func headers() []api.Header {
	var out []api.Header
	for n := range 2 << len(spots()) {
		var h api.Header
		for i := range h {
			h[i] = byte(n>>len(spots())) * 173
		}
		for k, i := range spots() {
			h[i/8] &^= 128 >> (i % 8)
			h[i/8] |= byte(n>>k&1) << (7 - i%8)
		}
		out = append(out, h)
	}
	return out
}

// inside tells by letters whether a cube has a header.
func inside(c api.Cube, h api.Header) bool {
	s, r := cube.Text(c), cube.Text(cube.Of(h))
	for i := range s {
		if s[i] != '*' && s[i] != r[i] {
			return false
		}
	}
	return true
}

// says is the first rule's number that has a header; -1: none has.
func says(l []api.Rule, h api.Header) int {
	return slices.IndexFunc(l, func(x api.Rule) bool { return inside(x.Cube, h) })
}

// Each header is in one leaf, whose rules say what the list says.
func TestP144Headers(t *testing.T) {
	x := noise(144)
	many, unsaid := 0, 0
	for n := range 120 {
		l, s := x.list(n%14), x.setup()
		s.Auth, s.Part = 20+x.below(20), 4+x.below(20)
		leaves, e := Make(l, s, []int{1, 2, 3, 4, 5, 6}, x.weights(6))
		if e != api.OK {
			continue
		}
		if len(leaves) > 2 {
			many++
		}
		for _, h := range headers() {
			in := slices.DeleteFunc(slices.Clone(leaves), func(y api.Leaf) bool { return !inside(y.Cube, h) })
			if len(in) != 1 {
				t.Fatalf("%v is in %s of %s", h, show(in, e), show(leaves, e))
			}
			a, b := says(l, h), says(in[0].Rules, h)
			switch {
			case a < 0 && b < 0:
				unsaid++
			case a < 0 || b < 0 || l[a].Order != in[0].Rules[b].Order || l[a].Action != in[0].Rules[b].Action:
				t.Fatalf("of %v the list says %d, the leaf %d: %s", h, a, b, show(in, e))
			}
		}
	}
	if many < 20 || unsaid < 100 {
		t.Error("the plans are too much of one kind:", many, unsaid)
	}
}

// A list of at most Auth / 2 rules always has room, whoever counts; one more that can't be trimmed hasn't, as one leaf.
func TestP144Bank(t *testing.T) {
	x := noise(1441)
	for auth := 2; auth <= 41; auth++ {
		for _, part := range []int{2, 3, 8, 64} {
			s := rooms(auth, part)
			for _, live := range [][]int{{1}, {6, 3}, {1, 2, 3, 4, 5, 6}} {
				for _, l := range [][]api.Rule{heap(auth / 2), x.list(auth / 2)} {
					got, e := Make(l, s, live, x.weights(6))
					if e != api.OK {
						t.Error(auth, part, live, show(got, e))
					}
					follows(t, l, s, live, got, e)
				}
			}
			if got, e := Make(heap(auth/2+1), s, []int{4, 5}, nil); e != api.ErrBank {
				t.Error(auth, part, show(got, e))
			}
		}
	}
}

// What Make tells goes to the switches whole: each rule of a leaf is an item of its holders, and of nobody else.
func TestP144Items(t *testing.T) {
	x := noise(1442)
	for n := range 300 {
		l, s := x.list(n%14), x.setup()
		got, e := Make(l, s, x.numbers(6), nil)
		if e != api.OK {
			continue
		}
		sum := 0
		for _, y := range got {
			sum += len(y.Rules)
			if y.Two != 0 {
				sum += len(y.Rules)
			}
		}
		for k := 1; k <= s.Switches; k++ {
			auths := len(Items(got, k)) - len(got)
			if auths != Load(got, k) || auths > s.Auth/2 || k > s.Authorities && auths > 0 {
				t.Fatal(k, auths, show(got, e))
			}
			sum -= auths
		}
		if sum != 0 {
			t.Fatal(sum, show(got, e))
		}
	}
}
