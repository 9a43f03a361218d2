package around

import (
	"slices"
	"testing"

	"milepost/api"
)

// roomy is a list with room behind it, in which something stands.
func roomy(l []api.Rule) []api.Rule {
	out := slices.Concat(l, rules("111", "000", "*"))
	return out[:len(l)]
}

// lists are such as have much in their rules' ways, and such as haven't.
func lists() [][]api.Rule {
	x := noise(31)
	out := [][]api.Rule{nil, rules("01"), rules("0", "1", "*"), rules("11", "*11", "**1", "*"), wrongs(rules("10", "01", "*"))}
	for n := range 20 {
		out = append(out, x.list(n))
	}
	return out
}

// What is handed in stays as it is, the room behind it too; and the same call answers the same again.
func TestMemoryGiven(t *testing.T) {
	for _, l := range lists() {
		given := roomy(l)
		ahead := slices.Clone(given[:cap(given)])
		for i := range given {
			if first, second := Needs(given, i), Needs(given, i); !slices.Equal(first, second) {
				t.Error("Needs:", show(l), i, first, second)
			}
		}
		for _, h := range all(5) {
			c, a, ok := About(given, h)
			if c2, a2, ok2 := About(given, h); c != c2 || a != a2 || ok != ok2 {
				t.Error("About:", show(l), bits(h), short(c), short(c2))
			}
		}
		if !slices.Equal(given[:cap(given)], ahead) {
			t.Error(show(ahead), show(given[:cap(given)]))
		}
	}
}

// What is written into an answer changes nothing of another one, nor of what was handed in; and the other way round.
func TestMemoryNeeds(t *testing.T) {
	for _, l := range lists() {
		for i := range l {
			given := roomy(l)
			ahead := slices.Clone(given[:cap(given)])
			first, second := Needs(given, i), Needs(given, i)
			want := slices.Clone(second)
			first = first[:cap(first)]
			for k := range first {
				first[k] = -99
			}
			if !slices.Equal(second, want) || !slices.Equal(given[:cap(given)], ahead) {
				t.Error("by an answer:", show(l), i, second, want)
			}
			for k := range given {
				given[k] = api.Rule{Order: -99, Action: -99}
			}
			if !slices.Equal(second, want) || !slices.Equal(Needs(l, i), want) {
				t.Error("by what was handed in:", show(l), i, second, want)
			}
		}
	}
}
