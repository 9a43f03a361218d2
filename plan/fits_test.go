package plan

import (
	"math"
	"slices"
	"testing"

	"milepost/api"
)

// fits holds Fits against what must be.
func fits(t *testing.T, name string, l []api.Leaf, s api.Setup, want bool) {
	t.Helper()
	if Fits(l, s) != want {
		t.Errorf("%s: Fits(%s, %+v) is %v", name, show(l, 0), s, !want)
	}
}

func TestP143FitsNoLeaf(t *testing.T) {
	for _, s := range []api.Setup{small(), middle(), rooms(2, 2), rooms(2048, 64), {}} {
		fits(t, "none", nil, s, false)
		fits(t, "empty", []api.Leaf{}, s, false)
	}
}

func TestP143FitsParts(t *testing.T) {
	for part := 2; part <= 64; part++ {
		s := rooms(2048, part)
		fits(t, "one", leaves(1, 1, 2, 1), s, true)
		fits(t, "as many as may be", leaves(part/2, 1, 2, 1), s, true)
		fits(t, "one more", leaves(part/2+1, 1, 2, 1), s, false)
		fits(t, "all of the bank", leaves(part, 1, 2, 0), s, false)
	}
}

func TestP143FitsHolders(t *testing.T) {
	for authorities := 2; authorities <= 6; authorities++ {
		s := small()
		s.Authorities = authorities
		for _, c := range []struct {
			one, two int
			want     bool
		}{
			{1, 2, true}, {2, 1, true}, {1, 0, true}, {authorities, 1, true}, {1, authorities, true}, {authorities, 0, true},
			{0, 1, false}, {0, 0, false}, {-1, 1, false}, {-1, 0, false}, {authorities + 1, 1, false}, {authorities + 1, 0, false}, {math.MinInt, 1, false}, {math.MaxInt, 1, false},
			{1, 1, false}, {2, 2, false}, {authorities, authorities, false},
			{1, -1, false}, {1, authorities + 1, false}, {1, math.MinInt, false}, {1, math.MaxInt, false}, {authorities + 1, authorities + 1, false}, {-1, -1, false},
		} {
			for _, many := range []int{0, 1} {
				x, ok := leaf(c.one, c.two, many, ""), leaf(2, 1, many, "")
				fits(t, "alone", []api.Leaf{x}, s, c.want)
				fits(t, "first", []api.Leaf{x, ok}, s, c.want)
				fits(t, "last", []api.Leaf{ok, x}, s, c.want)
			}
		}
	}
}

func TestP143FitsLoads(t *testing.T) {
	for _, auth := range []int{2, 3, 4, 5, 6, 7, 20, 21, 2047, 2048} {
		s := rooms(auth, 8)
		room := auth / 2
		fits(t, "at the bound", leaves(1, 1, 2, room), s, true)
		fits(t, "above", leaves(1, 1, 2, room+1), s, false)
		fits(t, "above, alone", leaves(1, 1, 0, room+1), s, false)
		fits(t, "all of the bank", leaves(1, 1, 2, auth), s, false)
		some := []api.Leaf{leaf(1, 2, room-1, ""), leaf(3, 1, 1, "")}
		fits(t, "in two leaves", some, s, true)
		fits(t, "One above", append(slices.Clone(some), leaf(1, 4, 1, "")), s, false)
		fits(t, "Two above", append(slices.Clone(some), leaf(4, 1, 1, "")), s, false)
		fits(t, "others", append(slices.Clone(some), leaf(4, 5, room, "")), s, true)
		fits(t, "Two of both", []api.Leaf{leaf(2, 1, room, ""), leaf(3, 1, 1, "")}, s, false)
		fits(t, "no rules more", append(slices.Clone(some), leaf(1, 2, 0, "")), s, true)
	}
}

// Leaves without a Two are of nobody as Two: together they may be more than a half room.
func TestP143FitsNobody(t *testing.T) {
	fits(t, "nobody", []api.Leaf{leaf(1, 0, 3, "0"), leaf(2, 0, 3, "1")}, small(), true)
	fits(t, "one more", []api.Leaf{leaf(1, 0, 3, "0"), leaf(2, 0, 4, "1")}, small(), false)
	fits(t, "one of both", []api.Leaf{leaf(2, 0, 3, "0"), leaf(2, 0, 1, "1")}, small(), false)
}

// Cubes, and what rules say, count for nothing.
func TestP143FitsCubes(t *testing.T) {
	fits(t, "the same cubes", []api.Leaf{leaf(1, 2, 1, "0"), leaf(1, 2, 1, "0")}, small(), true)
	fits(t, "not all headers", leaves(1, 1, 2, 3), small(), true)
}

// The numbers of a setup that may not be are taken as they are.
func TestP143FitsWrongSetup(t *testing.T) {
	one := leaves(1, 1, 2, 1)
	s := api.Setup{Authorities: 2, Auth: 2, Part: 2}
	fits(t, "nothing else", one, s, true)
	s.Authorities = math.MaxInt
	fits(t, "as many authorities as can be", leaves(1, math.MaxInt, math.MaxInt-1, 1), s, true)
	s.Authorities = 1
	fits(t, "one authority", one, s, false)
	fits(t, "one authority, no Two", leaves(1, 1, 0, 1), s, true)
	for _, n := range []int{0, -1, -2, math.MinInt} {
		s = api.Setup{Authorities: n, Auth: 2, Part: 2}
		fits(t, "no authorities", one, s, false)
		fits(t, "no authorities", leaves(1, 0, 0, 0), s, false)
		s = api.Setup{Authorities: 2, Auth: n, Part: 2}
		fits(t, "no room for rules", one, s, false)
		fits(t, "no rules", leaves(1, 1, 2, 0), s, n/2 == 0)
		s = api.Setup{Authorities: 2, Auth: 2, Part: n}
		fits(t, "no room for leaves", one, s, false)
	}
	fits(t, "one slot", one, api.Setup{Authorities: 2, Auth: 2, Part: 1}, false)
	fits(t, "one slot", one, api.Setup{Authorities: 2, Auth: 1, Part: 2}, false)
	great := api.Setup{Authorities: 2, Auth: math.MaxInt, Part: math.MaxInt}
	fits(t, "great", leaves(30000, 1, 2, 1), great, true)
	fits(t, "great, the last", append(leaves(30000, 1, 2, 1), leaf(1, 1, 1, "")), great, false)
}

func TestP143FitsReckoned(t *testing.T) {
	x := noise(1434)
	count := map[bool]int{}
	for range 30000 {
		l, s := x.some(x.below(5), 4), x.setup()
		// Most of the holders may be, so that the loads are asked often.
		for i := range l {
			if x.below(6) > 0 {
				l[i].One = 1 + x.below(s.Authorities)
				l[i].Two = (l[i].One + 1 + x.below(s.Authorities)) % (s.Authorities + 1)
			}
		}
		if Fits(l, s) != fitsOf(l, s) {
			t.Fatalf("Fits(%s, %+v) is %v", show(l, 0), s, Fits(l, s))
		}
		count[Fits(l, s)]++
	}
	if count[true] < 5000 || count[false] < 5000 {
		t.Error("too few of a kind:", count)
	}
}
