package cut

import (
	"slices"
	"testing"

	"milepost/api"
)

var junk = api.Rule{Order: -99, Cube: api.Cube{Value: api.Header{9}, Mask: api.Header{1}}, Action: -99}

// roomy is a list with room behind it, in which something stands.
func roomy(l []api.Rule) []api.Rule {
	out := slices.Concat(l, rules("111", "000", "*"))
	return out[:len(l)]
}

// spoil writes into a list and into the room behind it.
func spoil(l []api.Rule) {
	l = l[:cap(l)]
	for i := range l {
		l[i] = junk
	}
}

func spoilLeaves(l []api.Leaf) {
	l = l[:cap(l)]
	for i := range l {
		l[i] = api.Leaf{Cube: junk.Cube, One: 9, Two: 9}
	}
}

func copyLeaves(l []api.Leaf) []api.Leaf {
	var out []api.Leaf
	for _, x := range l {
		x.Rules = slices.Clone(x.Rules)
		out = append(out, x)
	}
	return out
}

// lists are such as are trimmed, and such as aren't.
func lists() [][]api.Rule {
	x := noise(31)
	out := [][]api.Rule{nil, rules("01"), rules("0", "1", "*"), four(), rules("*", "00", "01"), wrongs(four()), rules(stuck("")...)}
	for n := range 20 {
		out = append(out, x.list(n))
	}
	return out
}

// What is handed in stays as it is, the room behind it too.
func TestMemoryGiven(t *testing.T) {
	for _, l := range lists() {
		given := roomy(l)
		ahead := slices.Clone(given[:cap(given)])
		for _, c := range []api.Cube{right(""), wrong("01"), right("1")} {
			Clip(given, c)
			Best(given, c, 0.5)
			for _, leaves := range []int{0, 1, 3, 99} {
				Tree(given, leaves, 0, 1)
			}
		}
		if !slices.Equal(given[:cap(given)], ahead) {
			t.Error(show(ahead), show(given[:cap(given)]))
		}
	}
}

func TestMemoryFind(t *testing.T) {
	tree := Tree(four(), 9, 0, 0)
	for i := range tree {
		tree[i].One, tree[i].Two = i, i
		tree[i].Cube = wrong(letters(tree[i].Cube))
	}
	ahead := copyLeaves(tree)
	for _, h := range all(0) {
		Find(tree[:3], h)
	}
	if !same(tree, ahead) {
		t.Error(showLeaves(ahead), showLeaves(tree))
	}
}

// What is written into an answer changes nothing of what was handed in, nor of another answer; and the other way round.
func TestMemoryClip(t *testing.T) {
	for _, l := range lists() {
		for _, c := range []api.Cube{right(""), right("0"), wrong("11")} {
			given := roomy(l)
			ahead := slices.Clone(given[:cap(given)])
			first, second := Clip(given, c), Clip(given, c)
			want := slices.Clone(second)
			spoil(first)
			if !slices.Equal(given[:cap(given)], ahead) || !slices.Equal(second, want) {
				t.Error("by an answer:", show(l), show(given), show(second))
			}
			spoil(given)
			if !slices.Equal(second, want) {
				t.Error("by what was handed in:", show(l), show(second))
			}
		}
	}
}

func TestMemoryTree(t *testing.T) {
	for _, l := range lists() {
		for _, leaves := range []int{0, 1, 2, 3, 5, 99} {
			given := roomy(l)
			ahead := slices.Clone(given[:cap(given)])
			first, second := Tree(given, leaves, 0, 0), Tree(given, leaves, 0, 0)
			want := copyLeaves(second)
			// No two leaves share: each is spoiled by itself, the others stay.
			for i := range first {
				others := copyLeaves(first[i+1:])
				spoil(first[i].Rules)
				if !same(first[i+1:], others) {
					t.Error("by a leaf:", show(l), i, showLeaves(first))
				}
			}
			spoilLeaves(first)
			if !slices.Equal(given[:cap(given)], ahead) || !same(second, want) {
				t.Error("by an answer:", show(l), show(given), showLeaves(second))
			}
			spoil(given)
			if !same(second, want) {
				t.Error("by what was handed in:", show(l), showLeaves(second))
			}
		}
	}
}

// A leaf's rules stay where they are when more are laid behind those of the leaf ahead of it.
func TestMemoryRoom(t *testing.T) {
	for _, l := range lists() {
		tree := Tree(l, 99, 0, 0)
		want := copyLeaves(tree)
		for i := range tree {
			_ = append(tree[i].Rules, junk, junk, junk)
		}
		if !same(tree, want) {
			t.Error(showLeaves(tree), showLeaves(want))
		}
	}
}
