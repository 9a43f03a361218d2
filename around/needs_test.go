package around

import (
	"math"
	"slices"
	"strings"
	"testing"

	"milepost/api"
)

// The tests are named by the promises of shared/doc/15-around.md.

// needs holds Needs against the places that must be. Right cubes or not, it is the same.
func needs(t *testing.T, name string, l []api.Rule, i int, want ...int) {
	t.Helper()
	for _, list := range [][]api.Rule{l, wrongs(l)} {
		if got := Needs(list, i); !slices.Equal(got, want) {
			t.Errorf("%s: Needs(%s, %d): %v, not %v", name, show(list), i, got, want)
		}
	}
}

func TestP151Needs(t *testing.T) {
	l := rules("00", "01", "1", "0*1", "*")
	needs(t, "one ahead that it meets, by halves", l, 3, 0, 1)
	needs(t, "all ahead", l, 4, 0, 1, 2, 3)
	needs(t, "none that it meets", l, 1)
	needs(t, "none of two", l, 2)
	needs(t, "the first", l, 0)
}

func TestP151NoSuchRule(t *testing.T) {
	for _, i := range []int{math.MinInt, -1 << 32, -3, -1, 0, 1, 3, 1 << 32, math.MaxInt} {
		needs(t, "no rules", nil, i)
		needs(t, "an empty list", []api.Rule{}, i)
	}
	l := rules("*", "*", "*")
	for _, i := range []int{math.MinInt, -1 << 32, -3, -2, -1, 3, 4, 1 << 32, math.MaxInt} {
		needs(t, "no such rule", l, i)
	}
	needs(t, "the last place", l, 2, 0, 1)
}

// What stands behind the list, in its spare room, is none of its rules.
func TestP151SpareRoom(t *testing.T) {
	l := rules("0", "*", "*", "*")[:2]
	if got := Needs(l, 2); len(got) != 0 {
		t.Error("at the list's length:", got)
	}
	if got := Needs(l, 3); len(got) != 0 {
		t.Error("above it:", got)
	}
	if got := Needs(l, 1); !slices.Equal(got, []int{0}) {
		t.Error("the last place:", got)
	}
}

func TestP151SameCube(t *testing.T) {
	needs(t, "the same one", rules("01", "01", "01"), 2, 0, 1)
	needs(t, "the same one, others between", rules("01", "1", "01", "00", "01"), 4, 0, 2)
	header := strings.Repeat("10", 52)
	needs(t, "the same header", rules(header, header), 1, 0)
	same := api.Rule{Order: 4, Cube: right("01"), Action: 4}
	needs(t, "the very same rule", []api.Rule{same, same, same}, 1, 0)
}

// Each bit parts two cubes by itself, and none does that is free in one of them.
func TestP151EachBit(t *testing.T) {
	for i := range api.HeadBits {
		nought, one := at(map[int]string{i: "0"}), at(map[int]string{i: "1"})
		needs(t, "two halves", rules(nought, one, nought, one, "*"), 3, 1)
		header := strings.Repeat("01", 52)
		needs(t, "headers", rules(header, turn(header, i), change(header, i, "*")), 1)
		needs(t, "a cube of two headers", rules(header, turn(header, i), change(header, i, "*")), 2, 0, 1)
	}
}

// Value says nothing where Mask has noughts.
func TestP151NotRight(t *testing.T) {
	l := []api.Rule{
		{Cube: api.Cube{Value: api.Header{0: 0x80, 12: 1}}},
		{Cube: api.Cube{Value: api.Header{0: 0x7f}, Mask: api.Header{0: 0x80}}},
		{Cube: api.Cube{Value: api.Header{0: 0xff}, Mask: api.Header{0: 0x80}}},
		{Cube: api.Cube{Value: api.Header{0: 0x00, 5: 9}, Mask: api.Header{0: 0x80}}},
	}
	for i, want := range [][]int{nil, {0}, {0}, {0, 1}} {
		if got := Needs(l, i); !slices.Equal(got, want) {
			t.Errorf("the rule %d: %v, not %v", i, got, want)
		}
	}
}

func TestP151Reckoned(t *testing.T) {
	x := noise(88172645463325252)
	none, some, every := 0, 0, 0
	for n := range 1500 {
		l := x.list(n % 14)
		for i := -2; i < len(l)+3; i++ {
			got, want := Needs(l, i), needsOf(l, i)
			if !slices.Equal(got, want) {
				t.Fatalf("Needs(%s, %d): %v, not %v", show(l), i, got, want)
			}
			switch {
			case i <= 1 || i >= len(l):
			case len(want) == 0:
				none++
			case len(want) == i:
				every++
			default:
				some++
			}
		}
	}
	if none < 300 || some < 300 || every < 300 {
		t.Error("the lists are too much of one kind:", none, some, every)
	}
}
