package deal

import (
	"math"
	"slices"
	"testing"

	"milepost/api"
)

// dealt is a deal, and what is asked of it, in short: the error's number, and the pairs.
type dealt struct {
	sizes   []int
	live    []int
	weights []float64
	room    int
	want    string
}

func checkAll(t *testing.T, l []dealt) {
	t.Helper()
	for _, c := range l {
		got, e := Deal(c.sizes, c.live, c.weights, c.room)
		if s := show(got, e); s != c.want {
			t.Errorf("Deal(%v, %v, %v, %d): %s, not %s", c.sizes, c.live, c.weights, c.room, s, c.want)
		}
		if e != api.OK && len(got) != 0 {
			t.Error("pairs beside an error:", got)
		}
	}
}

func TestP131Examples(t *testing.T) {
	checkAll(t, []dealt{
		{[]int{3, 5}, []int{1, 2, 3}, nil, 9, "0 3+1 1+2"},
		{[]int{3, 5}, []int{1, 2, 3}, []float64{9, 0, 0}, 9, "0 2+3 2+3"},
		{[]int{3, 5}, []int{1, 2, 3}, nil, 4, "15"},
	})
}

func TestP131NoSizes(t *testing.T) {
	for _, sizes := range [][]int{nil, {}, make([]int, 0, 4)} {
		for _, live := range [][]int{nil, {}, {0, 7, -1}, {3}, {1, 2}} {
			for _, room := range []int{math.MinInt, -1, 0, 9, math.MaxInt} {
				checkAll(t, []dealt{{sizes, live, nil, room, "0"}, {sizes, live, []float64{nan}, room, "0"}})
			}
		}
	}
}

func TestP131Nobody(t *testing.T) {
	for _, live := range [][]int{nil, {}, {0}, {7}, {-1, 0, 7, 8}, {math.MinInt, math.MaxInt}, {1 << 32, 1<<32 + 1}} {
		for _, sizes := range [][]int{{0}, {-1}, {5}, {0, 3}, {math.MaxInt}, {math.MinInt}} {
			for _, room := range []int{-1, 0, 9, math.MaxInt} {
				checkAll(t, []dealt{{sizes, live, nil, room, "15"}})
			}
		}
	}
}

func TestP131JustOne(t *testing.T) {
	checkAll(t, []dealt{
		{[]int{4}, []int{6}, nil, 4, "0 6+0"},
		{[]int{4, 0, -3}, []int{6}, nil, 4, "0 6+0 6+0 6+0"},
		{[]int{2, 2}, []int{1, 1, 0, 1, 7}, nil, 4, "0 1+0 1+0"},
		{[]int{2, 3}, []int{1}, nil, 4, "15"},
		{[]int{5}, []int{3}, nil, 4, "15"},
		{[]int{2, 3}, []int{4}, []float64{0, 0, 0, inf}, 5, "0 4+0 4+0"},
	})
}

func TestP131Live(t *testing.T) {
	checkAll(t, []dealt{
		// Numbers below 1 and above 6 aren't there.
		{[]int{1, 1}, []int{0, 7, 2, -5, 5, math.MaxInt, math.MinInt}, nil, 9, "0 2+5 2+5"},
		{[]int{1}, []int{0, 1}, nil, 9, "0 1+0"},
		{[]int{1}, []int{6, 7}, nil, 9, "0 6+0"},
		{[]int{1}, []int{1, 6}, nil, 9, "0 1+6"},
		// Who stands there twice is there once, with one load.
		{[]int{2, 2}, []int{3, 3, 4, 3, 4}, nil, 4, "0 3+4 3+4"},
		{[]int{2, 2}, []int{3, 3, 4, 3, 4}, nil, 3, "15"},
		{[]int{2}, []int{5, 5}, nil, 4, "0 5+0"},
		// The order of live says nothing.
		{[]int{3, 5}, []int{3, 2, 1}, nil, 9, "0 3+1 1+2"},
		{[]int{3, 5}, []int{2, 3, 1, 2}, nil, 9, "0 3+1 1+2"},
		{[]int{1, 1, 1}, []int{6, 5, 4, 3, 2, 1}, nil, 9, "0 1+2 3+4 5+6"},
	})
}

func TestP131Weights(t *testing.T) {
	live := []int{1, 2, 3}
	checkAll(t, []dealt{
		// Weights fewer than the numbers ask for: the others have 0.
		{[]int{1}, live, nil, 9, "0 1+2"},
		{[]int{1}, live, []float64{1}, 9, "0 2+3"},
		{[]int{1}, live, []float64{1, 1}, 9, "0 3+1"},
		{[]int{1}, live, []float64{1, 0.5}, 9, "0 3+2"},
		{[]int{1}, []int{5, 6}, []float64{0, 0, 0, 0, 1}, 9, "0 6+5"},
		// A weight stands at its number less 1, whoever is there; those behind the sixth say nothing.
		{[]int{1}, []int{2, 4, 6}, []float64{9, 2, 9, 1, 9, 3, 0, 0}, 9, "0 4+2"},
		// Below 0, or no number: as 0. So the least number.
		{[]int{1}, live, []float64{0, -1, -inf}, 9, "0 1+2"},
		{[]int{1}, live, []float64{0.5, -1, -0.5}, 9, "0 2+3"},
		{[]int{1}, live, []float64{nan, nan, 1}, 9, "0 1+2"},
		{[]int{1}, live, []float64{1, nan, 0.5}, 9, "0 2+3"},
		{[]int{3, 5}, []int{3, 2, 1, 2, 0, 7}, []float64{9, 0, nan}, 9, "0 2+3 2+3"},
		// Infinite: as the greatest finite number.
		{[]int{1}, live, []float64{inf, math.MaxFloat64, -1}, 4, "0 3+1"},
		{[]int{1}, live, []float64{inf, 1e308, 5}, 4, "0 3+2"},
		{[]int{1, 1, 1}, []int{1, 2}, []float64{inf, inf}, 4, "0 1+2 1+2 1+2"},
		// A cost may be infinite, and then is like another one: the least number stays ahead whatever its load is.
		{[]int{2, 2, 2}, live, []float64{inf, inf, inf}, 9, "0 1+2 1+2 1+2"},
		{[]int{2, 2, 2}, live, []float64{inf, inf, inf}, 5, "15"},
		{[]int{1, 2, 2}, live, []float64{inf, inf, inf}, 5, "0 3+1 1+2 1+2"},
		// Who has no room is passed over, however light.
		{[]int{4, 3}, live, []float64{0, 5, 9}, 6, "15"},
		{[]int{4, 3}, live, []float64{0, 5, 9}, 7, "0 1+2 1+3"},
		{[]int{4, 2}, live, []float64{0, 50, 99}, 5, "15"},
		{[]int{4, 1}, live, []float64{0, 50, 99}, 5, "0 1+2 1+3"},
	})
}

// What costs nothing yet is alike, however heavy: a size of 0 at first goes to the least number.
func TestP131SizesOfNothing(t *testing.T) {
	live := []int{2, 3, 4}
	checkAll(t, []dealt{
		{[]int{0}, live, []float64{0, 9, inf, 0}, 0, "0 2+3"},
		{[]int{-1}, live, []float64{0, 9, inf, 0}, 0, "0 2+3"},
		{[]int{0, -7, math.MinInt}, live, nil, 0, "0 2+3 2+3 2+3"},
		// They come last: by then 2 and 3 have something, 4 hasn't.
		{[]int{0, 5, -2}, live, nil, 9, "0 4+2 2+3 4+2"},
		// What is below 0 takes nothing away from a load.
		{[]int{5, -5, 4}, []int{1, 2}, nil, 9, "0 1+2 1+2 1+2"},
		{[]int{5, -5, 5}, []int{1, 2}, nil, 9, "15"},
		{[]int{-5, -5, 1}, []int{1, 2}, nil, 0, "15"},
	})
}

func TestP131Order(t *testing.T) {
	checkAll(t, []dealt{
		// The greatest first, wherever it stands.
		{[]int{1, 2, 3}, []int{1, 2, 3}, nil, 9, "0 3+2 3+1 1+2"},
		{[]int{3, 2, 1}, []int{1, 2, 3}, nil, 9, "0 1+2 3+1 3+2"},
		{[]int{2, 3, 1}, []int{1, 2, 3}, nil, 9, "0 3+1 1+2 3+2"},
		// Of several that are the same the lowest place.
		{[]int{2, 2, 2}, []int{1, 2, 3, 4, 5, 6}, nil, 9, "0 1+2 3+4 5+6"},
		{[]int{1, 2, 1, 2}, []int{1, 2, 3, 4, 5}, nil, 9, "0 5+1 1+2 5+2 3+4"},
		// Of several whose cost is the same the least number.
		{[]int{2}, []int{4, 5, 6}, []float64{9, 9, 9, 3, 2, 2}, 9, "0 5+6"},
		{[]int{2}, []int{6, 5, 4}, []float64{9, 9, 9, 3, 3, 2}, 9, "0 6+4"},
		// The second time a load of 4 by itself costs what a load of 2 does, twice: the least number, whichever load it has.
		{[]int{2, 2}, []int{1, 2, 3}, []float64{0, 1, 1}, 9, "0 1+2 1+3"},
		{[]int{2, 2}, []int{2, 3, 4}, []float64{0, 1, 1, 0}, 9, "0 4+2 3+4"},
		// Greater sizes than floats tell apart are still in order: the second one comes first.
		{[]int{1 << 60, 1<<60 + 1}, []int{1, 2, 3, 4}, nil, math.MaxInt, "0 3+4 1+2"},
		{[]int{math.MaxInt - 1, math.MaxInt}, []int{1, 2, 3, 4}, nil, math.MaxInt, "0 3+4 1+2"},
	})
}

func TestP131Room(t *testing.T) {
	both := []int{1, 2}
	checkAll(t, []dealt{
		// Below 0 nothing fits, 0 neither.
		{[]int{0}, both, nil, -1, "15"},
		{[]int{-1}, both, nil, -1, "15"},
		{[]int{-9}, both, nil, -3, "15"},
		{[]int{math.MinInt}, both, nil, math.MinInt, "15"},
		{[]int{math.MaxInt}, both, nil, math.MinInt, "15"},
		{[]int{0}, []int{1}, nil, -1, "15"},
		// At 0 what counts as 0 fits.
		{[]int{0, -1}, both, nil, 0, "0 1+2 1+2"},
		{[]int{1}, both, nil, 0, "15"},
		{[]int{0, 1}, both, nil, 0, "15"},
		// Just enough, and just too small.
		{[]int{5}, both, nil, 5, "0 1+2"},
		{[]int{5}, both, nil, 4, "15"},
		{[]int{3, 5}, both, nil, 8, "0 1+2 1+2"},
		{[]int{3, 5}, both, nil, 7, "15"},
		{[]int{3, 5, 4}, []int{1, 2, 3}, nil, 9, "0 3+2 1+2 3+1"},
		{[]int{3, 5, 4}, []int{1, 2, 3}, nil, 8, "15"},
		// Room for the first of a pair alone.
		{[]int{4, 2, 2}, both, nil, 7, "15"},
		{[]int{4, 2}, []int{1, 2, 3}, []float64{0, 0, 9}, 5, "15"},
		{[]int{4, 2, 1}, []int{1, 2, 3, 4}, nil, 4, "0 1+2 3+4 3+4"},
		// Sums that would go round.
		{[]int{math.MaxInt}, both, nil, math.MaxInt, "0 1+2"},
		{[]int{math.MaxInt}, both, nil, math.MaxInt - 1, "15"},
		{[]int{math.MaxInt, 1}, both, nil, math.MaxInt, "15"},
		{[]int{math.MaxInt, math.MaxInt}, both, nil, math.MaxInt, "15"},
		{[]int{math.MaxInt, math.MaxInt}, []int{1, 2, 3, 4}, nil, math.MaxInt, "0 1+2 3+4"},
		{[]int{math.MaxInt, 0}, both, nil, math.MaxInt, "0 1+2 1+2"},
		{[]int{1 << 62, 1<<62 - 1}, both, nil, math.MaxInt, "0 1+2 1+2"},
		{[]int{1 << 62, 1 << 62}, both, nil, math.MaxInt, "15"},
	})
}

// Of any inputs it is what the words say: errors and answers both are met often.
func TestP131Reckoned(t *testing.T) {
	x := noise(131)
	fine, full := 0, 0
	for range 20000 {
		limit := []int{1, 2, 5, 9, 100, math.MaxInt / 3, math.MaxInt}[x.below(7)]
		sizes, live := x.wholes(x.below(9), limit), x.numbers(x.below(12))
		weights, room := x.weights(x.below(9)), x.whole(limit)
		if x.below(4) > 0 && room >= 0 && room < math.MaxInt/8 {
			room *= 8
		}
		got, e := Deal(sizes, live, weights, room)
		want, bad := dealOf(sizes, live, weights, room)
		if e != bad || !slices.Equal(got, want) {
			t.Fatalf("Deal(%v, %v, %v, %d): %s, not %s", sizes, live, weights, room, show(got, e), show(want, bad))
		}
		if e == api.OK && len(sizes) > 2 && len(thereOf(live)) > 2 {
			fine++
		}
		if e != api.OK && len(thereOf(live)) > 0 {
			full++
		}
	}
	if fine < 2000 || full < 2000 {
		t.Error("too few of a kind:", fine, full)
	}
}

// Many leaves, as many as a plan may have and more.
func TestP131Many(t *testing.T) {
	x := noise(1312)
	for _, many := range []int{32, 64, 513} {
		sizes, weights := x.wholes(many, 512), x.weights(6)
		for _, live := range [][]int{{1, 2}, {2, 4, 6}, {6, 5, 4, 3, 2, 1}} {
			for _, room := range []int{1024, many * 100, many * 600} {
				got, e := Deal(sizes, live, weights, room)
				want, bad := dealOf(sizes, live, weights, room)
				if e != bad || !slices.Equal(got, want) {
					t.Error(many, live, weights, room, e, bad)
				}
			}
		}
	}
}

// places makes so many sizes, each with a pair.
func places(many int, size int, p api.Pair) ([]int, []api.Pair) {
	return slices.Repeat([]int{size}, many), slices.Repeat([]api.Pair{p}, many)
}

func TestP132Pairs(t *testing.T) {
	sizes := []int{1, 10, 100, 1000}
	l := []api.Pair{{One: 1, Two: 2}, {One: 2, Two: 1}, {One: 3}, {One: 3, Two: 3}}
	for _, c := range []struct{ n, want int }{
		{1, 11}, {2, 11},
		// Who is both has it once. Nobody, 0, is a Two as well.
		{3, 1100}, {0, 100},
		{4, 0}, {7, 0}, {-1, 0}, {math.MaxInt, 0}, {math.MinInt, 0},
	} {
		if n := Loads(sizes, l, c.n); n != c.want {
			t.Error(c.n, n, c.want)
		}
	}
	// Numbers that aren't those of switches are numbers too.
	if n := Loads([]int{5, 6}, []api.Pair{{One: -4, Two: 99}, {One: math.MinInt, Two: -4}}, -4); n != 11 {
		t.Error(n)
	}
}

func TestP132Sizes(t *testing.T) {
	for _, c := range []struct{ size, want int }{
		{0, 0}, {-1, 0}, {math.MinInt, 0}, {1, 1}, {7, 7},
		{1<<20 - 1, 1<<20 - 1}, {1 << 20, 1 << 20}, {1<<20 + 1, 1 << 20}, {1 << 40, 1 << 20}, {math.MaxInt, 1 << 20},
	} {
		for _, p := range []api.Pair{{One: 4, Two: 5}, {One: 5, Two: 4}} {
			if n := Loads([]int{c.size}, []api.Pair{p}, 4); n != c.want {
				t.Error(c.size, n, c.want)
			}
			if n := Loads([]int{c.size, 3, -3}, []api.Pair{p, p, p}, 4); n != c.want+3 {
				t.Error(c.size, n, c.want+3)
			}
		}
	}
}

func TestP132FewerOrMorePairs(t *testing.T) {
	sizes, l := places(9, 2, api.Pair{One: 6})
	for many := range 10 {
		if n := Loads(sizes, l[:many:many], 6); n != 2*many {
			t.Error("pairs:", many, n)
		}
		if n := Loads(sizes[:many:many], l, 6); n != 2*many {
			t.Error("sizes:", many, n)
		}
		// What stands behind a list isn't in it.
		if n := Loads(sizes[:many], l[:many], 6); n != 2*many {
			t.Error("both:", many, n)
		}
	}
	if n := Loads(nil, nil, 6); n != 0 {
		t.Error(n)
	}
	if a, b := Loads(sizes, nil, 6), Loads(nil, l, 6); a != 0 || b != 0 {
		t.Error(a, b)
	}
}

func TestP132ManyPlaces(t *testing.T) {
	for _, c := range []struct{ many, want int }{{4095, 4095}, {4096, 4096}, {4097, 4096}, {5000, 4096}, {20000, 4096}} {
		sizes, l := places(c.many, 1, api.Pair{One: 2, Two: 1})
		for _, n := range []int{1, 2} {
			if got := Loads(sizes, l, n); got != c.want {
				t.Error(c.many, n, got)
			}
		}
		sizes, l = places(c.many, math.MaxInt, api.Pair{One: 2})
		if got := Loads(sizes, l, 2); got != c.want<<20 {
			t.Error(c.many, got)
		}
	}
	// Places count by where they stand, whoever has them.
	sizes, l := places(4098, 1, api.Pair{One: 1, Two: 2})
	l[4095], l[4096], l[4097] = api.Pair{One: 3, Two: 4}, api.Pair{One: 4, Two: 5}, api.Pair{One: 5, Two: 3}
	for n, want := range []int{0, 4095, 4095, 1, 1, 0} {
		if got := Loads(sizes, l, n); got != want {
			t.Error(n, got, want)
		}
	}
}

func TestP132Reckoned(t *testing.T) {
	x := noise(132)
	for range 3000 {
		sizes := x.wholes(x.below(20), []int{9, 1 << 21, math.MaxInt}[x.below(3)])
		var l []api.Pair
		for range x.below(20) {
			l = append(l, api.Pair{One: x.below(8), Two: x.below(8)})
		}
		for n := -1; n < 9; n++ {
			if got, want := Loads(sizes, l, n), loadsOf(sizes, l, n); got != want {
				t.Fatal(sizes, l, n, got, want)
			}
		}
	}
}

// Who has it, is there; nobody is it twice; nobody has more than room.
func TestP133Bounds(t *testing.T) {
	x := noise(133)
	tight := 0
	for range 20000 {
		sizes, live := x.wholes(1+x.below(12), 1+x.below(30)), x.numbers(x.below(12))
		room := x.below(120) - 2
		l, e := Deal(sizes, live, x.weights(x.below(8)), room)
		if e != api.OK {
			continue
		}
		there := thereOf(live)
		if len(l) != len(sizes) {
			t.Fatal(sizes, l)
		}
		for _, p := range l {
			alone := len(there) == 1 && p.Two == 0
			if !slices.Contains(there, p.One) || p.One == p.Two || !alone && !slices.Contains(there, p.Two) {
				t.Fatal(sizes, live, l)
			}
		}
		for _, n := range there {
			load := Loads(sizes, l, n)
			if load > room {
				t.Fatal(sizes, live, room, l, n, load)
			}
			if load == room {
				tight++
			}
		}
	}
	if tight < 200 {
		t.Error("too few that are full:", tight)
	}
}

// With sizes all alike, and weights too, loads differ by one size at most. (But for weights so great that costs are infinite: TestP131Weights.)
func TestP133Even(t *testing.T) {
	x := noise(1333)
	for range 3000 {
		size, many, w := x.below(50), x.below(200), []float64{0, 0.1, 1, 3, 1e9, 1e300, -1, nan, -inf, math.SmallestNonzeroFloat64}[x.below(10)]
		sizes, live := slices.Repeat([]int{size}, many), x.numbers(1+x.below(12))
		there := thereOf(live)
		weights := slices.Repeat([]float64{w}, 6)
		if w == 0 {
			weights = nil
		}
		if len(there) == 0 {
			continue
		}
		room := size * (2*many/len(there) + 1)
		l, e := Deal(sizes, live, weights, room)
		if e != api.OK {
			t.Fatal("no room:", sizes, live, weights, room)
		}
		var loads []int
		for _, n := range there {
			loads = append(loads, Loads(sizes, l, n))
		}
		if slices.Max(loads)-slices.Min(loads) > size {
			t.Fatal(size, many, live, weights, loads)
		}
	}
}
