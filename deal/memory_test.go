package deal

import (
	"math"
	"slices"
	"testing"

	"milepost/api"
)

// roomy is a list with room behind it, in which something stands.
func roomy[T any](l []T, behind ...T) []T {
	return slices.Concat(l, behind)[:len(l)]
}

// everything is a list with what stands behind it.
func everything[T any](l []T) []T {
	return slices.Clone(l[:cap(l)])
}

func bitsOf(l []float64) []uint64 {
	var out []uint64
	for _, x := range l {
		out = append(out, math.Float64bits(x))
	}
	return out
}

// What is handed in stays as it is, the room behind it too, whether there is room for it or not.
func TestMemoryGivenDeal(t *testing.T) {
	x := noise(41)
	for range 500 {
		sizes, live, weights := roomy(x.wholes(x.below(9), 20), 7, 7, 7), roomy(x.numbers(x.below(9)), 1, 2, 3), roomy(x.weights(x.below(8)), nan, 5, -1)
		a, b, c := everything(sizes), everything(live), everything(weights)
		for _, room := range []int{-1, 5, 20, 1000} {
			Deal(sizes, live, weights, room)
		}
		if !slices.Equal(everything(sizes), a) || !slices.Equal(everything(live), b) || !slices.Equal(bitsOf(everything(weights)), bitsOf(c)) {
			t.Fatal(a, b, c, everything(sizes), everything(live), everything(weights))
		}
	}
}

func TestMemoryGivenLoads(t *testing.T) {
	x := noise(42)
	for range 500 {
		sizes := roomy(x.wholes(x.below(9), 1<<21), 7, 7, 7)
		l := roomy(slices.Repeat([]api.Pair{{One: 1, Two: 2}, {One: 3}}, x.below(6)), api.Pair{One: 9})
		a, b := everything(sizes), everything(l)
		for n := range 5 {
			Loads(sizes, l, n)
		}
		if !slices.Equal(everything(sizes), a) || !slices.Equal(everything(l), b) {
			t.Fatal(a, b, everything(sizes), everything(l))
		}
	}
}

// What is written into an answer changes no other answer.
func TestMemoryAnswers(t *testing.T) {
	x := noise(43)
	for range 500 {
		sizes, live := x.wholes(x.below(9), 20), []int{2, 3, 5}
		first, _ := Deal(sizes, live, nil, 1000)
		second, e := Deal(sizes, live, nil, 1000)
		want := everything(second)
		first = first[:cap(first)]
		for i := range first {
			first[i] = api.Pair{One: -9, Two: -9}
		}
		third, _ := Deal(sizes, live, nil, 1000)
		if e != api.OK || !slices.Equal(everything(second), want) || !slices.Equal(second, third) {
			t.Fatal(sizes, second, third, want)
		}
	}
}

// No deal hangs on the ones ahead of it.
func TestMemoryNothingKept(t *testing.T) {
	want, _ := Deal([]int{3, 5}, []int{1, 2, 3}, nil, 9)
	for _, room := range []int{9, 4, 9, 5, 9} {
		Deal([]int{4, 4}, []int{3, 1}, []float64{0, 9}, room)
		if l, e := Deal([]int{3, 5}, []int{1, 2, 3}, nil, 9); e != api.OK || !slices.Equal(l, want) {
			t.Error(room, l, e)
		}
	}
}
