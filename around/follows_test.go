package around

import (
	"testing"

	"milepost/api"
	"milepost/cube"
	"milepost/flat"
	"milepost/sense"
)

// follows holds what About answers against P15.3, for any header, by no reckoning of the cube itself. It tells how many bits can't be free for another rule's sake.
func follows(t *testing.T, l []api.Rule, g api.Header) int {
	t.Helper()
	rows, h := texts(l), bits(g)
	place := first(rows, h)
	answer, a, ok := About(l, g)
	if place < 0 {
		if ok {
			t.Fatalf("About(%s, %s): there is no rule for it", show(l), h)
		}
		return 0
	}
	c := letters(answer)
	if !ok || a != l[place].Action || !cube.Right(answer) || !lies(h, c) || !lies(c, rows[place]) {
		t.Fatalf("About(%s, %s): %s, %d, %v", show(l), h, c, a, ok)
	}
	for i, s := range rows[:place] {
		if touch(c, s) {
			t.Fatalf("About(%s, %s): %s has a header of rule %d", show(l), h, c, i)
		}
	}
	held := 0
	for i := range c {
		if c[i] == '*' || rows[place][i] != '*' {
			continue
		}
		held++
		if !others(rows, place, change(c, i, "*")) {
			t.Fatalf("About(%s, %s): in %s the bit %d needn't be fixed", show(l), h, c, i)
		}
	}
	return held
}

// others tells whether a cube has a header for which another rule than the one at a place is the first: one that it has together with a rule ahead is such a one.
func others(rows []string, place int, c string) bool {
	for _, s := range rows[:place] {
		if both, ok := cube.Meet(right(s), right(c)); ok {
			return first(rows, bits(both.Value)) != place
		}
	}
	return false
}

func TestP153Follows(t *testing.T) {
	x := noise(362436069521288629)
	held := 0
	for n := range 200 {
		l := x.list(n % 16)
		for _, h := range all(byte(3 * n)) {
			held += follows(t, l, h)
		}
	}
	for n := range 600 {
		h := x.header()
		held += follows(t, x.near(bits(h), 1+n%30, n%9), h)
	}
	if held < 1000 {
		t.Error("the lists are too plain:", held)
	}
}

// Header by header: of those with all ways in which the spots may stand, each that the cube has goes to the rule, and with any other bit free one of them doesn't.
func TestP153EachHeader(t *testing.T) {
	x := noise(123456789)
	seen := 0
	for n := range 150 {
		l := x.list(2 + n%12)
		rows, heads := texts(l), all(byte(n))
		goes := map[string]int{}
		for _, g := range heads {
			goes[bits(g)] = first(rows, bits(g))
		}
		stray := func(c string, place int) bool {
			for h, p := range goes {
				if p != place && lies(h, c) {
					return true
				}
			}
			return false
		}
		for _, g := range heads {
			answer, _, ok := About(l, g)
			place, c := goes[bits(g)], letters(answer)
			if ok != (place >= 0) {
				t.Fatalf("About(%s, %s): %v", show(l), bits(g), ok)
			}
			if ok && stray(c, place) {
				t.Fatalf("About(%s, %s): %s has a header for which another rule is the first", show(l), bits(g), c)
			}
			for i := range c {
				if !ok || c[i] == '*' || rows[place][i] != '*' {
					continue
				}
				seen++
				if !stray(change(c, i, "*"), place) {
					t.Fatalf("About(%s, %s): %s could be greater by the bit %d", show(l), bits(g), c, i)
				}
			}
		}
	}
	if seen < 1000 {
		t.Error("the lists are too plain:", seen)
	}
}

// What follows holds for tables that policies come to.
func TestP153Policies(t *testing.T) {
	x := noise(11)
	for _, text := range []string{
		"default -> drop",
		"5 dport 80 -> port 2\ndefault -> drop",
		"9 src 10.0.0.0/8 dport 1-1000 -> port 3\n7 dst 10.1.0.0/16 sport 5-70 -> drop\n7 proto 6 -> port 2\n2 src 10.0.0.0/7 -> port 4\ndefault -> port 9",
	} {
		m, e, _ := sense.Read(text)
		if e != api.OK {
			t.Fatal(text, e)
		}
		l, e := flat.Compile(m)
		if e != api.OK {
			t.Fatal(text, e)
		}
		for _, rule := range l {
			for _, fill := range []api.Header{{}, x.header(), x.header()} {
				h := rule.Cube.Value
				for i := range h {
					h[i] |= fill[i] &^ rule.Cube.Mask[i]
				}
				follows(t, l, h)
			}
		}
	}
}
