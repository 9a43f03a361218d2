package lex

import (
	"reflect"
	"strings"
	"testing"
	"unsafe"

	"milepost/api"
)

func word(at int, s string) api.Token { return api.Token{Kind: api.Word, Pos: at, Text: s} }
func num(at int, n int) api.Token     { return api.Token{Kind: api.Num, Pos: at, N: n} }
func sole(at int, kind int) api.Token { return api.Token{Kind: kind, Pos: at} }

// says holds what Tokens answers for a text that is right against tokens.
func says(t *testing.T, s string, want ...api.Token) {
	t.Helper()
	l, e, at := Tokens(s)
	if e != api.OK || at != 0 || len(l) != len(want) {
		t.Errorf("Tokens(%q): %v, %d, %d, not %v", s, l, e, at, want)
		return
	}
	for i := range l {
		if l[i] != want[i] {
			t.Errorf("Tokens(%q): at %d %v, not %v", s, i, l[i], want[i])
		}
	}
}

// fails holds what Tokens answers for a text that is wrong against an error and its place.
func fails(t *testing.T, s string, e api.Errno, at int) {
	t.Helper()
	if l, f, n := Tokens(s); len(l) != 0 || f != e || n != at {
		t.Errorf("Tokens(%.60q): %v, %d, %d, not %d, %d", s, l, f, n, e, at)
	}
}

func TestP51Examples(t *testing.T) {
	says(t, "10 src 1.2/8->x # 5", num(0, 10), word(3, "src"), num(7, 1), sole(8, api.Dot), num(9, 2), sole(10, api.Slash), num(11, 8), sole(12, api.Arrow), word(14, "x"))
	fails(t, "a 01", api.ErrNumber, 2)
	fails(t, "a A", api.ErrByte, 2)
	fails(t, "- >", api.ErrByte, 2)
}

func TestP51Policy(t *testing.T) {
	says(t, "5 dport 80-90 -> port 2\r\n# all else\n\tdefault->drop\n",
		num(0, 5), word(2, "dport"), num(8, 80), sole(10, api.Dash), num(11, 90), sole(14, api.Arrow), word(17, "port"), num(22, 2), sole(24, api.Line),
		sole(35, api.Line),
		word(37, "default"), sole(44, api.Arrow), word(46, "drop"), sole(50, api.Line))
}

func TestP51Empty(t *testing.T) {
	for _, s := range []string{"", " ", "\t", "\r", "\r\t ", "#", "##", "# \t\r#", "  # x", "#\x00\xff", strings.Repeat(" ", 4096), strings.Repeat("#", 4096)} {
		says(t, s)
	}
}

func TestP51EachSign(t *testing.T) {
	says(t, ".", sole(0, api.Dot))
	says(t, "/", sole(0, api.Slash))
	says(t, "-", sole(0, api.Dash))
	says(t, "->", sole(0, api.Arrow))
	says(t, "\n", sole(0, api.Line))
	says(t, "\n\n\r\n", sole(0, api.Line), sole(1, api.Line), sole(3, api.Line))
	says(t, "..//", sole(0, api.Dot), sole(1, api.Dot), sole(2, api.Slash), sole(3, api.Slash))
}

func TestP51Words(t *testing.T) {
	for c := byte('a'); c <= 'z'; c++ {
		says(t, string(rune(c)), word(0, string(rune(c))))
	}
	says(t, "abcdefghijklmnopqrstuvwxyz", word(0, "abcdefghijklmnopqrstuvwxyz"))
	says(t, "a b  cd", word(0, "a"), word(2, "b"), word(5, "cd"))
	long := strings.Repeat("z", 4096)
	says(t, long, word(0, long))
}

func TestP51LettersAndDigitsTouch(t *testing.T) {
	says(t, "a1", word(0, "a"), num(1, 1))
	says(t, "1a", num(0, 1), word(1, "a"))
	says(t, "ab12cd0", word(0, "ab"), num(2, 12), word(4, "cd"), num(6, 0))
	says(t, "0x0", num(0, 0), word(1, "x"), num(2, 0))
	fails(t, "a01", api.ErrNumber, 1)
	says(t, "1.0/0-0", num(0, 1), sole(1, api.Dot), num(2, 0), sole(3, api.Slash), num(4, 0), sole(5, api.Dash), num(6, 0))
	says(t, "0 1", num(0, 0), num(2, 1))
}

func TestP51Numbers(t *testing.T) {
	for s, n := range map[string]int{"0": 0, "1": 1, "9": 9, "10": 10, "100": 100, "1234567890": 1234567890, "999999999": 999999999, "2147483647": 1<<31 - 1, "2147483648": 1 << 31, "4294967294": 1<<32 - 2, "4294967295": 1<<32 - 1} {
		says(t, s, num(0, n))
		says(t, "x "+s+"\n", word(0, "x"), num(2, n), sole(2+len(s), api.Line))
	}
}

func TestP51NoNumbers(t *testing.T) {
	rows := []string{
		"00", "01", "007", "0000000000", "00000000001", "04294967295", "04294967296",
		"4294967296", "4294967297", "4294967300", "4300000000", "5000000000", "9999999999", "10000000000", "42949672950",
		"18446744073709551615", "18446744073709551616", "18446744073709551617", "9223372036854775807", "9223372036854775808", "36893488147419103233",
		strings.Repeat("9", 100), "1" + strings.Repeat("0", 4095), strings.Repeat("0", 4096), strings.Repeat("7", 4096),
	}
	for _, s := range rows {
		fails(t, s, api.ErrNumber, 0)
		if len(s) <= 4000 {
			fails(t, "x -> "+s+" y", api.ErrNumber, 5)
			fails(t, "1\n"+s+"A", api.ErrNumber, 2)
			fails(t, "1."+s, api.ErrNumber, 2)
		}
	}
}

func TestP51Dashes(t *testing.T) {
	says(t, "80-", num(0, 80), sole(2, api.Dash))
	says(t, "1-2", num(0, 1), sole(1, api.Dash), num(2, 2))
	says(t, "--", sole(0, api.Dash), sole(1, api.Dash))
	says(t, "-->", sole(0, api.Dash), sole(1, api.Arrow))
	says(t, "--->", sole(0, api.Dash), sole(1, api.Dash), sole(2, api.Arrow))
	says(t, "->->", sole(0, api.Arrow), sole(2, api.Arrow))
	says(t, "->-", sole(0, api.Arrow), sole(2, api.Dash))
	says(t, "-#>", sole(0, api.Dash))
	for _, gap := range []string{" ", "\t", "\r", "\n", "#\n", ".", "a", "0"} {
		fails(t, "-"+gap+">", api.ErrByte, 1+len(gap))
	}
	fails(t, ">", api.ErrByte, 0)
	fails(t, "->>", api.ErrByte, 2)
	fails(t, ">-", api.ErrByte, 0)
}

func TestP51Remarks(t *testing.T) {
	says(t, "a#", word(0, "a"))
	says(t, "a#b", word(0, "a"))
	says(t, "a#b\nc", word(0, "a"), sole(3, api.Line), word(4, "c"))
	says(t, "#\n#", sole(1, api.Line))
	says(t, "#01 99999999999 A > ##\n7", sole(22, api.Line), num(23, 7))
	says(t, "#a\r\nb", sole(3, api.Line), word(4, "b"))
	var all []byte
	for b := range 256 {
		if b != '\n' {
			all = append(all, byte(b))
		}
	}
	says(t, "1#"+string(all), num(0, 1))
	says(t, "1#"+string(all)+"\n2", num(0, 1), sole(257, api.Line), num(258, 2))
	fails(t, "#"+string(all)+"\n\xff", api.ErrByte, 257)
}

func TestP51NothingApart(t *testing.T) {
	for _, b := range []byte{9, 13, 32} {
		gap := string(rune(b))
		says(t, gap+"a"+gap+"1"+gap, word(1, "a"), num(3, 1))
		says(t, "a"+gap+"a"+gap+gap+"1"+gap+"1", word(0, "a"), word(2, "a"), num(5, 1), num(7, 1))
	}
}

func TestP51Strangers(t *testing.T) {
	l := strangers()
	if len(l) != 256-26-10-3-1-3-1 {
		t.Fatal(len(l))
	}
	for _, b := range l {
		s := string([]byte{b})
		fails(t, s, api.ErrByte, 0)
		fails(t, "ab"+s+"cd", api.ErrByte, 2)
		fails(t, "10"+s, api.ErrByte, 2)
		if b != '>' {
			fails(t, "-"+s, api.ErrByte, 1)
		}
		fails(t, "\n\t"+s+"#", api.ErrByte, 2)
	}
	fails(t, "a é", api.ErrByte, 2)
	fails(t, "a\u00a0b", api.ErrByte, 1)
}

func TestP51FirstFromTheLeft(t *testing.T) {
	fails(t, "a 01 A", api.ErrNumber, 2)
	fails(t, "a A 01", api.ErrByte, 2)
	fails(t, "1 00 02", api.ErrNumber, 2)
	fails(t, "01A", api.ErrNumber, 0)
	fails(t, "A01", api.ErrByte, 0)
	fails(t, "99999999999\x00", api.ErrNumber, 0)
	fails(t, "\x00 99999999999", api.ErrByte, 0)
	fails(t, "A B", api.ErrByte, 0)
	fails(t, "1 # 01 A\nB 02", api.ErrByte, 9)
	fails(t, "x\n\n05 > 06", api.ErrNumber, 3)
}

func TestP51Long(t *testing.T) {
	for _, s := range []string{" ", "a", "1", "0", "#", "\n", "-", "A", "\xff", ".", "é", "01 "} {
		row := strings.Repeat(s, 4097)
		fails(t, row[:4097], api.ErrLong, 4096)
		fails(t, row[:4096]+"\n", api.ErrLong, 4096)
		fails(t, row, api.ErrLong, 4096)
	}
	fails(t, strings.Repeat("a b\n", 1<<18), api.ErrLong, 4096)
	l, e, at := Tokens(strings.Repeat("\n", 4096))
	if len(l) != 4096 || e != api.OK || at != 0 {
		t.Error(len(l), e, at)
	}
	says(t, strings.Repeat(" ", 4095)+"x", word(4095, "x"))
	says(t, strings.Repeat(" ", 4095)+"-", sole(4095, api.Dash))
	says(t, "7"+strings.Repeat("#", 4095), num(0, 7))
	fails(t, strings.Repeat(" ", 4095)+"X", api.ErrByte, 4095)
	fails(t, strings.Repeat(" ", 4094)+"00", api.ErrNumber, 4094)
	fails(t, strings.Repeat("é", 2048), api.ErrByte, 0)
	fails(t, strings.Repeat("a", 4094)+"é", api.ErrByte, 4094)
}

func TestP51Model(t *testing.T) {
	signs := "a0>-#\n A."
	var short func(s string, left int)
	short = func(s string, left int) {
		if got, want := ask(s), model(s); !reflect.DeepEqual(got, want) {
			t.Errorf("Tokens(%q): %v, not %v", s, got, want)
		}
		for i := 0; i < len(signs) && left > 0; i++ {
			short(s+signs[i:i+1], left-1)
		}
	}
	short("", 5)
	pieces := []string{"a", "src", "0", "1", "10", "4294967295", ".", "/", "-", "->", "\n", " ", "\t", "\r", "# > A\n", "#", "\n", "port", "x", "80"}
	n := noise(5)
	for range 3000 {
		s := n.mixture(n.below(60), pieces)
		if n.below(4) == 0 {
			at := n.below(len(s) + 1)
			s = s[:at] + string([]byte{byte(n.below(256))}) + s[at:]
		}
		if got, want := ask(s), model(s); !reflect.DeepEqual(got, want) {
			t.Fatalf("Tokens(%q): %v, not %v", s, got, want)
		}
	}
}

func TestP52Rise(t *testing.T) {
	n := noise(52)
	pieces := []string{"a", "bc", " ", "\n", "-", "->", ".", "/", " 7 ", " 0 ", "#x\n", "\t\r"}
	for range 500 {
		s := n.mixture(n.below(200), pieces)
		l, e, _ := Tokens(s)
		if e != api.OK {
			t.Fatal(s, e)
		}
		last := -1
		for _, x := range l {
			if x.Pos <= last || x.Pos >= len(s) {
				t.Fatalf("Tokens(%q): %v behind %d", s, x, last)
			}
			last = x.Pos
		}
	}
}

func TestP52NothingBetween(t *testing.T) {
	tokens := []string{"a", "src", "default", "0", "9", "4294967295", ".", "/", "-", "->", "\n"}
	gaps := []string{" ", "\t", "\r", " \t\r ", "\r\r", strings.Repeat(" ", 300), "#", "# A > 01 \xff", "#->", " ##\t"}
	n := noise(521)
	for range 2000 {
		bare, wide := "", ""
		var places []int
		for range n.below(12) {
			x := tokens[n.below(len(tokens))]
			gap := gaps[n.below(len(gaps))]
			// What stands behind # up to the line's end would be nothing too.
			if x != "\n" && strings.Contains(gap, "#") {
				gap = " "
			}
			wide += gap
			places = append(places, len(wide))
			wide += x
			bare += " " + x
		}
		wide += gaps[n.below(len(gaps))]
		l, e, _ := Tokens(bare)
		m, f, _ := Tokens(wide)
		if e != api.OK || f != api.OK || !reflect.DeepEqual(unplaced(l), unplaced(m)) {
			t.Fatalf("Tokens(%q), Tokens(%q): %v, %d; %v, %d", bare, wide, l, e, m, f)
		}
		for i, x := range m {
			if x.Pos != places[i] {
				t.Fatalf("Tokens(%q): %v, not at %d", wide, x, places[i])
			}
		}
	}
}

func TestP52NothingWhereTokensTouch(t *testing.T) {
	says(t, "a1.b/2-c->\n", word(0, "a"), num(1, 1), sole(2, api.Dot), word(3, "b"), sole(4, api.Slash), num(5, 2), sole(6, api.Dash), word(7, "c"), sole(8, api.Arrow), sole(10, api.Line))
	says(t, "a 1\t.\rb / 2  -\t\tc \r->#x\n", word(0, "a"), num(2, 1), sole(4, api.Dot), word(6, "b"), sole(8, api.Slash), num(10, 2), sole(13, api.Dash), word(16, "c"), sole(19, api.Arrow), sole(23, api.Line))
}

func TestAnswersAreNew(t *testing.T) {
	s := strings.Repeat("word 7 ", 9)
	l, _, _ := Tokens(s)
	m, _, _ := Tokens(s)
	from, to := uintptr(unsafe.Pointer(unsafe.StringData(s))), uintptr(len(s))
	for i, x := range l {
		if x.Kind != api.Word {
			continue
		}
		if at := uintptr(unsafe.Pointer(unsafe.StringData(x.Text))); at >= from && at < from+to {
			t.Errorf("the word at %d shares the text's memory", x.Pos)
		}
		if unsafe.StringData(x.Text) == unsafe.StringData(m[i].Text) {
			t.Errorf("the word at %d is shared by two answers", x.Pos)
		}
	}
	if len(l) == 0 || len(m) == 0 {
		t.Fatal(l, m)
	}
	l[0] = api.Token{}
	if m[0] != word(0, "word") {
		t.Error(m[0])
	}
}
