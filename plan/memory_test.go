package plan

import (
	"math"
	"slices"
	"testing"

	"milepost/api"
)

var junk = api.Rule{Order: -99, Cube: api.Cube{Value: api.Header{9}, Mask: api.Header{1}}, Action: -99}

// roomy is a list with room behind it, in which something stands.
func roomy[T any](l []T, behind ...T) []T {
	return slices.Concat(l, behind)[:len(l)]
}

// everything is a list with what stands behind it.
func everything[T any](l []T) []T {
	return slices.Clone(l[:cap(l)])
}

// spoil writes into a list and into the room behind it.
func spoil[T any](l []T, what T) {
	l = l[:cap(l)]
	for i := range l {
		l[i] = what
	}
}

func bitsOf(l []float64) []uint64 {
	var out []uint64
	for _, x := range l {
		out = append(out, math.Float64bits(x))
	}
	return out
}

// What is handed in to Make stays as it is, the room behind it too; and an answer stays when that is written over.
func TestMemoryMake(t *testing.T) {
	x := noise(51)
	for n := range 600 {
		l, live, weights := roomy(x.list(n%12), fork()...), roomy(x.numbers(x.below(9)), 1, 2, 3), roomy(x.weights(x.below(8)), nan, 5, -1)
		a, b, c := everything(l), everything(live), everything(weights)
		s := x.setup()
		first, _ := Make(l, s, live, weights)
		second, e := Make(l, s, live, weights)
		want := copyLeaves(second)
		// No two leaves share: each is spoiled by itself, the others stay.
		for i := range first {
			others := copyLeaves(first[i+1:])
			spoil(first[i].Rules, junk)
			if !same(first[i+1:], others) {
				t.Fatal("by a leaf:", show(first, e))
			}
		}
		spoil(first, api.Leaf{One: -9, Two: -9})
		if !slices.Equal(everything(l), a) || !slices.Equal(everything(live), b) || !slices.Equal(bitsOf(everything(weights)), bitsOf(c)) {
			t.Fatal("what was handed in:", l, live, weights)
		}
		spoil(l, junk)
		spoil(live, 1)
		spoil(weights, 7)
		if !same(second, want) {
			t.Fatal("by what was handed in, or another answer:", show(second, e), show(want, e))
		}
		if third, again := Make(a[:n%12], s, b[:len(live)], c[:len(weights)]); again != e || !same(third, want) {
			t.Fatal("it hangs on what was ahead:", show(third, again), show(want, e))
		}
	}
}

// A leaf's rules stay where they are when more are laid behind those of the leaf ahead of it.
func TestMemoryRoom(t *testing.T) {
	x := noise(52)
	for n := range 300 {
		got, e := Make(x.list(n%12), rooms(60, 20), []int{1, 2, 3}, nil)
		want := copyLeaves(got)
		for i := range got {
			_ = append(got[i].Rules, junk, junk, junk)
		}
		if !same(got, want) {
			t.Fatal(show(got, e), show(want, e))
		}
	}
}

func TestMemoryLeaves(t *testing.T) {
	x := noise(53)
	for range 300 {
		l := roomy(x.some(x.below(7), 4), leaf(1, 2, 3, "01"), leaf(9, 9, 1, ""))
		for i := range l {
			l[i].Rules = roomy(l[i].Rules, junk, junk)
		}
		ahead := copyLeaves(everything(l))
		for n := -1; n < 8; n++ {
			first, second := Items(l, n), Items(l, n)
			Load(l, n)
			want := everything(second)
			spoil(first, api.Slot{Bank: 9, At: 9, Cube: junk.Cube, One: 9})
			if !slices.Equal(everything(second), want) || !slices.Equal(Items(l, n), second) {
				t.Fatal("by another answer:", n, show(l, 0))
			}
		}
		for _, s := range []api.Setup{small(), rooms(2048, 64), {}} {
			Fits(l, s)
		}
		if !same(l[:cap(l)], ahead) {
			t.Fatal(show(l[:cap(l)], 0), show(ahead, 0))
		}
		for _, y := range l {
			if behind := y.Rules[:cap(y.Rules)][len(y.Rules):]; len(behind) < 2 || behind[0] != junk || behind[1] != junk {
				t.Fatal("behind a leaf's rules:", behind)
			}
		}
	}
}
