package head

import (
	"fmt"
	"strings"
	"testing"

	"milepost/api"
)

func TestP13Text(t *testing.T) {
	rows := []struct {
		h    api.Header
		want string
	}{
		{Make(0x0a000001, 0x01020304, 80, 53, 17), "10.0.0.1:80>1.2.3.4:53/17"},
		{noughts, "0.0.0.0:0>0.0.0.0:0/0"},
		{ones, "255.255.255.255:65535>255.255.255.255:65535/255"},
		{Make(0x01020304, 0x05060708, 9, 10, 11), "1.2.3.4:9>5.6.7.8:10/11"},
		{Make(0x640a6300, 0xc8ff0900, 256, 10000, 100), "100.10.99.0:256>200.255.9.0:10000/100"},
	}
	for _, r := range rows {
		if s := Text(r.h); s != r.want {
			t.Errorf("Text(%v): %s, not %s", r.h, s, r.want)
		}
	}
	for _, h := range scatter(200) {
		want := fmt.Sprintf("%d.%d.%d.%d:%d>%d.%d.%d.%d:%d/%d", h[0], h[1], h[2], h[3], int(h[8])*256+int(h[9]), h[4], h[5], h[6], h[7], int(h[10])*256+int(h[11]), h[12])
		if s := Text(h); s != want {
			t.Errorf("Text(%v): %s, not %s", h, s, want)
		}
	}
}

func TestP13ParseOfText(t *testing.T) {
	for _, h := range append(scatter(500), noughts, ones, mixed, uneven) {
		if g, e := Parse(Text(h)); g != h || e != api.OK {
			t.Errorf("Parse(%s): %v, %d", Text(h), g, e)
		}
	}
	for v := range 1 << 16 {
		h := Make(uint32(v), uint32(v)<<16, uint16(v), ^uint16(v), uint8(v))
		if g, e := Parse(Text(h)); g != h || e != api.OK {
			t.Fatalf("Parse(%s): %v, %d", Text(h), g, e)
		}
	}
}

// fill is a text with one of its eleven numbers written otherwise.
func fill(which int, number string) string {
	numbers := []any{"10", "20", "30", "40", "80", "50", "60", "70", "90", "53", "17"}
	numbers[which] = number
	return fmt.Sprintf("%s.%s.%s.%s:%s>%s.%s.%s.%s:%s/%s", numbers...)
}

func refuse(t *testing.T, s string) {
	t.Helper()
	if h, e := Parse(s); h != noughts || e != api.ErrForm {
		t.Errorf("Parse(%q): %v, %d", s, h, e)
	}
}

func TestP13ParseNumbers(t *testing.T) {
	for which := range 11 {
		good, bad := []string{"0", "1", "9", "10", "99", "100", "249", "250", "255"}, []string{"256", "260", "300", "999", "1000"}
		if which == 4 || which == 9 {
			good, bad = append(append(good, bad...), "65529", "65535"), []string{"65536", "65540", "70000", "99999", "100000"}
		}
		for _, n := range good {
			if h, e := Parse(fill(which, n)); e != api.OK || Text(h) != fill(which, n) {
				t.Errorf("Parse(%s): %v, %d", fill(which, n), h, e)
			}
		}
		bad = append(bad, "", "00", "01", "007", "0255", "000000000000000000001", "+1", "-1", "-0", " 1", "1 ", "1_0", "0x1", "a", "1e1", "1.", ".1",
			"4294967296", "4294967297", "18446744073709551616", "18446744073709551617", strings.Repeat("9", 5000), "1"+strings.Repeat("0", 5000),
			"\u0661", "\uff11", "\u00b2", "\xb1", "1\x00", "\x001")
		for _, n := range bad {
			refuse(t, fill(which, n))
		}
	}
}

func TestP13ParseWrong(t *testing.T) {
	for _, s := range []string{
		"", " ", ".", "0", "17", "...:>...:/", "\x00", "\xff", "\ufffd",
		"10.0.0.1", "10.0.0.1:80", "10.0.0.1:80>1.2.3.4", "10.0.0.1:80>1.2.3.4:53", "10.0.0.1:80>1.2.3.4:53/",
		"10.0.0.1:80>1.2.3.4:53/17/", "10.0.0.1:80>1.2.3.4:53/17.", "10.0.0.1:80>1.2.3.4:53/17/17", "10.0.0.1:80>1.2.3.4:53/17>1.2.3.4:53/17",
		"10.0.0.1:80>1.2.3.4:53/17\x00", "10.0.0.1:80>1.2.3.4:53/17\n", "10.0.0.1:80>1.2.3.4:53/17\x000", "10.0.0.1:80>1.2.3.4:53/17\xff",
		"10.0.0.1:80 > 1.2.3.4:53/17", "10.0.0.1:80<1.2.3.4:53/17", "10.0.0.1:80->1.2.3.4:53/17",
		"10.0.0.1/17:80>1.2.3.4:53", "10.0.1:80>1.2.3.4:53/17", "10.0.0.1.1:80>1.2.3.4:53/17", "10.0.0.1:80>1.2.3:53/17", "10.0.0.1:80>1.2.3.4.5:53/17",
		"10..0.1:80>1.2.3.4:53/17", "10.0.0.01:80>1.2.3.4:53/17", "256.0.0.1:80>1.2.3.4:53/17",
	} {
		refuse(t, s)
	}
}

// Each text that differs by one byte from a header's is either another header's, or none's.
func TestP13ParseNear(t *testing.T) {
	for _, s := range []string{Text(mixed), Text(ones), Text(noughts), Text(uneven)} {
		for i := range len(s) + 1 {
			checkNear(t, s[:i])
			for b := range 256 {
				checkNear(t, s[:i]+string([]byte{byte(b)})+s[i:])
				if i < len(s) {
					checkNear(t, s[:i]+string([]byte{byte(b)})+s[i+1:])
				}
			}
			if i < len(s) {
				checkNear(t, s[:i]+s[i+1:])
			}
		}
	}
}

func checkNear(t *testing.T, s string) {
	t.Helper()
	h, e := Parse(s)
	if is := isText(s); is != (e == api.OK) || is && Text(h) != s || !is && (h != noughts || e != api.ErrForm) {
		t.Errorf("Parse(%q): %v, %d", s, h, e)
	}
}

// isText tells by another way than the package's whether a text is a header's: it is read loosely, and written again.
func isText(s string) bool {
	var a, b [4]uint8
	var p, q uint16
	var r uint8
	if _, err := fmt.Sscanf(s, "%d.%d.%d.%d:%d>%d.%d.%d.%d:%d/%d", &a[0], &a[1], &a[2], &a[3], &p, &b[0], &b[1], &b[2], &b[3], &q, &r); err != nil {
		return false
	}
	return s == fmt.Sprintf("%d.%d.%d.%d:%d>%d.%d.%d.%d:%d/%d", a[0], a[1], a[2], a[3], p, b[0], b[1], b[2], b[3], q, r)
}
