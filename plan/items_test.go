package plan

import (
	"math"
	"slices"
	"testing"

	"milepost/api"
)

// mixed are leaves with all kinds of holders.
func mixed() []api.Leaf {
	return []api.Leaf{leaf(1, 2, 2, "00"), leaf(2, 3, 1, "01"), leaf(3, 0, 0, "100"), leaf(4, 4, 3, "101"), leaf(2, 1, 1, "110"), leaf(5, 0, 2, "111")}
}

func TestP143ItemsWrittenOut(t *testing.T) {
	a, b := rules("0", "*")[0], rules("0", "*")[1]
	l := []api.Leaf{
		{Cube: right("0"), One: 1, Two: 2, Rules: []api.Rule{a}},
		{Cube: right("1"), One: 2, Two: 3, Rules: []api.Rule{b, a}},
	}
	parts := []api.Slot{
		{Bank: api.Part, Cube: right("0"), One: 1, Two: 2},
		{Bank: api.Part, At: 1, Cube: right("1"), One: 2, Two: 3},
	}
	for _, c := range []struct {
		n    int
		auth []api.Slot
	}{
		{1, []api.Slot{{Bank: api.Auth, At: 2, Order: 70, Cube: right("0"), Action: 5}}},
		{2, []api.Slot{
			{Bank: api.Auth, At: 2, Order: 70, Cube: right("0"), Action: 5},
			{Bank: api.Auth, At: 3, Order: 67, Cube: right(""), Action: 6},
			{Bank: api.Auth, At: 4, Order: 70, Cube: right("0"), Action: 5},
		}},
		{3, []api.Slot{
			{Bank: api.Auth, At: 2, Order: 67, Cube: right(""), Action: 6},
			{Bank: api.Auth, At: 3, Order: 70, Cube: right("0"), Action: 5},
		}},
		// In no leaf: the partitions alone.
		{4, nil}, {0, nil}, {-1, nil}, {7, nil}, {math.MaxInt, nil}, {math.MinInt, nil},
	} {
		if got := Items(l, c.n); !slices.Equal(got, slices.Concat(parts, c.auth)) {
			t.Errorf("Items of %d: %+v", c.n, got)
		}
		if got := Load(l, c.n); got != len(c.auth) {
			t.Errorf("Load of %d: %d", c.n, got)
		}
	}
}

func TestP143NoLeaves(t *testing.T) {
	for _, l := range [][]api.Leaf{nil, {}, mixed()[:0]} {
		for _, n := range []int{math.MinInt, -1, 0, 1, 2, 6, 7, math.MaxInt} {
			if got := Items(l, n); len(got) != 0 {
				t.Error(n, got)
			}
			if got := Load(l, n); got != 0 {
				t.Error(n, got)
			}
		}
	}
}

func TestP143Loads(t *testing.T) {
	l := mixed()
	for _, c := range []struct{ n, want int }{
		// As One and as Two.
		{1, 3}, {2, 4}, {3, 1},
		// Of a leaf that has it as both: once.
		{4, 3},
		{5, 2}, {6, 0}, {7, 0}, {-1, 0}, {-4, 0}, {math.MaxInt, 0}, {math.MinInt, 0},
		// By its number, 0 is like any other one.
		{0, 2},
	} {
		if got := Load(l, c.n); got != c.want {
			t.Errorf("Load of %d: %d, not %d", c.n, got, c.want)
		}
		if got := Items(l, c.n); len(got) != len(l)+c.want || !slices.Equal(got, itemsOf(l, c.n)) {
			t.Errorf("Items of %d: %+v", c.n, got)
		}
	}
}

// Holders that are no switch's numbers are numbers too.
func TestP143OddHolders(t *testing.T) {
	l := []api.Leaf{leaf(-4, 99, 2, "0"), leaf(math.MinInt, -4, 3, "1"), leaf(0, 0, 4, "01"), leaf(0, 7, 1, "10")}
	for _, c := range []struct{ n, want int }{{-4, 5}, {99, 2}, {math.MinInt, 3}, {0, 5}, {7, 1}, {4, 0}, {-99, 0}} {
		if got := Load(l, c.n); got != c.want {
			t.Errorf("Load of %d: %d, not %d", c.n, got, c.want)
		}
		if got := Items(l, c.n); !slices.Equal(got, itemsOf(l, c.n)) || len(got) != 4+c.want {
			t.Errorf("Items of %d: %+v", c.n, got)
		}
	}
}

// Cubes, orders and actions are told as they are: also of a cube that isn't right.
func TestP143AsTheyAre(t *testing.T) {
	l := []api.Leaf{{Cube: wrong("01"), One: 1, Rules: []api.Rule{{Order: -7, Cube: wrong("011"), Action: -3}, {Order: math.MaxInt, Cube: right("*1"), Action: math.MinInt}, {}, {}}}}
	want := []api.Slot{
		{Bank: 3, Cube: wrong("01"), One: 1},
		{Bank: 2, At: 1, Order: -7, Cube: wrong("011"), Action: -3},
		{Bank: 2, At: 2, Order: math.MaxInt, Cube: right("*1"), Action: math.MinInt},
		{Bank: 2, At: 3},
		{Bank: 2, At: 4},
	}
	if got := Items(l, 1); !slices.Equal(got, want) {
		t.Errorf("%+v", got)
	}
	if got := Load(l, 1); got != 4 {
		t.Error(got)
	}
}

// Many leaves, and leaves with many rules: no bound is set to what is counted.
func TestP143Many(t *testing.T) {
	l := leaves(5000, 2, 1, 3)
	for _, n := range []int{1, 2} {
		if got := Load(l, n); got != 15000 {
			t.Error(n, got)
		}
		if got := Items(l, n); len(got) != 20000 || !slices.Equal(got, itemsOf(l, n)) {
			t.Error(n, len(got))
		}
	}
	l = []api.Leaf{{One: 3, Rules: make([]api.Rule, 1<<20+5)}}
	if got := Load(l, 3); got != 1<<20+5 {
		t.Error(got)
	}
}

// some makes leaves with holders of any kind.
func (n *noise) some(many int, size int) []api.Leaf {
	var out []api.Leaf
	for range many {
		out = append(out, leaf(n.below(9)-1, n.below(9)-1, n.below(size), []string{"", "0", "1", "01"}[n.below(4)]))
	}
	return out
}

func TestP143Reckoned(t *testing.T) {
	x := noise(143)
	for range 3000 {
		l := x.some(x.below(9), 5)
		for n := -2; n < 9; n++ {
			if got := Items(l, n); !slices.Equal(got, itemsOf(l, n)) {
				t.Fatalf("Items(%s, %d): %+v", show(l, 0), n, got)
			}
			if got := Load(l, n); got != loadOf(l, n) {
				t.Fatalf("Load(%s, %d): %d", show(l, 0), n, got)
			}
		}
	}
}
