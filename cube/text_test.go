package cube

import (
	"strings"
	"testing"

	"milepost/api"
)

func TestP25Text(t *testing.T) {
	if s := Text(All()); s != strings.Repeat("*", 104) {
		t.Error("Text(All):", s)
	}
	if s := Text(Of(ones)); s != strings.Repeat("1", 104) {
		t.Error("Text(Of(ones)):", s)
	}
	if s := Text(Of(noughts)); s != strings.Repeat("0", 104) {
		t.Error("Text(Of(noughts)):", s)
	}
	for _, c := range some(100) {
		if s := Text(c); s != letters(c) {
			t.Errorf("Text(%v): %s", c, s)
		}
		if Text(c) != Text(Canon(c)) {
			t.Errorf("Text(%v) is not its right one's", c)
		}
	}
}

func TestP25ParseOfText(t *testing.T) {
	for _, c := range some(100) {
		if d, e := Parse(letters(c)); d != Canon(c) || e != api.OK {
			t.Errorf("Parse(%s): %v, %d", letters(c), d, e)
		}
	}
	for i := range api.HeadBits {
		for _, letter := range []string{"0", "1", "*"} {
			for _, s := range []string{letters(All()), letters(Of(ones)), letters(Of(noughts))} {
				s = change(s, i, letter)
				if d, e := Parse(s); d != right(s) || e != api.OK || Text(d) != s {
					t.Errorf("Parse(%s): %v, %d", s, d, e)
				}
			}
		}
	}
}

func refuse(t *testing.T, s string) {
	t.Helper()
	if c, e := Parse(s); c != nothing || e != api.ErrForm {
		t.Errorf("Parse(%q): %v, %d", s, c, e)
	}
}

func TestP25ParseLength(t *testing.T) {
	for _, letter := range []string{"0", "1", "*"} {
		for _, n := range []int{0, 1, 8, 13, 52, 103, 105, 106, 112, 208, 5000} {
			refuse(t, strings.Repeat(letter, n))
		}
	}
	full := strings.Repeat("01*", 34) + "01"
	for _, more := range []string{" ", "\n", "\x00", "*", "\xff", "é"} {
		refuse(t, full+more)
		refuse(t, more+full)
	}
}

func TestP25ParseLetters(t *testing.T) {
	full := strings.Repeat("01*", 34) + "01"
	for i := range api.HeadBits {
		for b := range 256 {
			if strings.IndexByte("01*", byte(b)) < 0 {
				refuse(t, change(full, i, string([]byte{byte(b)})))
			}
		}
	}
	// Of as many bytes, and of as many signs, as a cube's text has.
	refuse(t, full[:102]+"é")
	refuse(t, full[:103]+"é")
	refuse(t, full[:103]+"\uff11")
	refuse(t, strings.Repeat("\u0661", 52))
}
