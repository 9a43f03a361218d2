package parse

import (
	"reflect"
	"slices"
	"strings"
	"testing"
	"unsafe"

	"milepost/api"
)

func fig(n int, at int) api.Figure { return api.Figure{N: n, Pos: at} }

func drop(at int, prio int, clauses ...api.Clause) api.Raw {
	return api.Raw{Pos: at, Prio: fig(prio, at), Clauses: clauses, Drop: true}
}

func clause(at int, word string, nums ...api.Figure) api.Clause {
	return api.Clause{Word: word, Pos: at, Nums: nums}
}

func slash(c api.Clause) api.Clause {
	c.Slash = true
	return c
}

func dash(c api.Clause) api.Clause {
	c.Dash = true
	return c
}

// says holds what Parse answers for a text that is right against lines.
func says(t *testing.T, s string, want ...api.Raw) {
	t.Helper()
	if got := ask(s); !same(got, answer{want, api.OK, 0}) {
		t.Errorf("Parse(%q): %v, not %v", s, got, want)
	}
}

// fails holds what Parse answers for a text that is wrong against an error and its place.
func fails(t *testing.T, s string, e api.Errno, at int) {
	t.Helper()
	if l, f, n := Parse(s); len(l) != 0 || f != e || n != at {
		t.Errorf("Parse(%.80q): %v, %d, %d, not %d, %d", s, l, f, n, e, at)
	}
}

func TestP61Examples(t *testing.T) {
	says(t, "5 src 10.0.0.0/8 dport 80-90 -> port 3", api.Raw{
		Prio: fig(5, 0),
		Clauses: []api.Clause{
			slash(clause(2, "src", fig(10, 6), fig(0, 9), fig(0, 11), fig(0, 13), fig(8, 15))),
			dash(clause(17, "dport", fig(80, 23), fig(90, 26))),
		},
		Port: fig(3, 37),
	})
	fails(t, "5 src 1.2 -> drop", api.ErrSyntax, 10)
	fails(t, "5 proto 6 proto 6 -> drop", api.ErrTwice, 10)
	fails(t, "default ->", api.ErrSyntax, 10)
	fails(t, "5 dport 80 -> port", api.ErrSyntax, 18)
}

func TestP61NoTokens(t *testing.T) {
	for _, s := range []string{"", " ", "\n", "\n\n\n", " \r\n\t\n", "#", "# 5 -> x", "# a\n# b\n", strings.Repeat("\n", 4096), strings.Repeat(" ", 4096)} {
		says(t, s)
	}
}

func TestP61LinesPassedOver(t *testing.T) {
	a, b := drop(0, 1), api.Raw{Pos: 0, Default: true, Port: fig(2, 0)}
	for _, ahead := range []string{"", "\n", "\n\n", "# x\n", " \t\r\n # \n"} {
		for _, between := range []string{"\n", "\n\n", "\r\n", " # y\n", "\n#\n\n"} {
			for _, behind := range []string{"", "\n", "\n\n\n", " ", "#", " # z\n", "\n \n#"} {
				first, second := "1 -> drop", "default -> port 2"
				x, y := a, b
				x.Pos = len(ahead)
				x.Prio.Pos = x.Pos
				y.Pos = x.Pos + len(first) + len(between)
				y.Port.Pos = y.Pos + 16
				says(t, ahead+first+between+second+behind, x, y)
				says(t, ahead+first+behind, x)
			}
		}
	}
}

func TestP61EachClauseAlone(t *testing.T) {
	says(t, "7 -> drop", drop(0, 7))
	for _, w := range []string{"src", "dst"} {
		nums := []api.Figure{fig(1, 6), fig(2, 8), fig(3, 10), fig(4, 12)}
		says(t, "7 "+w+" 1.2.3.4 -> drop", drop(0, 7, clause(2, w, nums...)))
		says(t, "7 "+w+" 1.2.3.4/0 -> drop", drop(0, 7, slash(clause(2, w, append(nums, fig(0, 14))...))))
	}
	for _, w := range []string{"sport", "dport"} {
		says(t, "7 "+w+" 1 -> drop", drop(0, 7, clause(2, w, fig(1, 8))))
		says(t, "7 "+w+" 1-0 -> drop", drop(0, 7, dash(clause(2, w, fig(1, 8), fig(0, 10)))))
	}
	says(t, "7 proto 17 -> drop", drop(0, 7, clause(2, "proto", fig(17, 8))))
}

func TestP61Actions(t *testing.T) {
	says(t, "default -> drop", api.Raw{Default: true, Drop: true})
	says(t, "default -> port 0", api.Raw{Default: true, Port: fig(0, 16)})
	says(t, "0 -> port 4294967295", api.Raw{Prio: fig(0, 0), Port: fig(4294967295, 10)})
	says(t, " 4294967295->port7", api.Raw{Pos: 1, Prio: fig(4294967295, 1), Port: fig(7, 17)})
	says(t, "default->port7#", api.Raw{Default: true, Port: fig(7, 13)})
}

func TestP61TokensThatTouch(t *testing.T) {
	says(t, "1src1.2.3.4/5dport6-7proto8->drop", drop(0, 1,
		slash(clause(1, "src", fig(1, 4), fig(2, 6), fig(3, 8), fig(4, 10), fig(5, 12))),
		dash(clause(13, "dport", fig(6, 18), fig(7, 20))),
		clause(21, "proto", fig(8, 26))))
	says(t, "1 sport 2 - 3 -> drop", drop(0, 1, dash(clause(2, "sport", fig(2, 8), fig(3, 12)))))
	says(t, "1 dst 1 . 2\t.3 .4 / 5->drop", drop(0, 1, slash(clause(2, "dst", fig(1, 6), fig(2, 10), fig(3, 13), fig(4, 16), fig(5, 20)))))
}

func TestP61FiveInAnyOrder(t *testing.T) {
	words := []string{"src", "dst", "sport", "dport", "proto"}
	tails := map[string]string{"src": " 1.2.3.4/5", "dst": " 6.7.8.9", "sport": " 10-11", "dport": " 12", "proto": " 13"}
	orders := 0
	var grow func(s string, used []string)
	grow = func(s string, used []string) {
		agrees(t, s+" -> drop")
		if len(used) == len(words) {
			l, e, _ := Parse(s + " -> drop")
			if e != api.OK || len(l) != 1 || len(l[0].Clauses) != 5 {
				t.Fatal(s, l, e)
			}
			for i, c := range l[0].Clauses {
				if c.Word != used[i] {
					t.Error(s, c)
				}
			}
			orders++
		}
		for _, w := range words {
			if !slices.Contains(used, w) {
				grow(s+" "+w+tails[w], append(used[:len(used):len(used)], w))
			} else {
				fails(t, s+" "+w+tails[w]+" -> drop", api.ErrTwice, len(s)+1)
			}
		}
	}
	grow("3", nil)
	if orders != 120 {
		t.Error(orders)
	}
}

func TestP61Twice(t *testing.T) {
	for _, behind := range []string{"", " ", " 6", " x", " -> drop", " 0", "\n", " /", "\n5 -> x", " proto", " 6 proto 6"} {
		fails(t, "5 proto 6 proto"+behind, api.ErrTwice, 10)
		fails(t, "5 src 1.2.3.4 proto 6 src"+behind, api.ErrTwice, 22)
		fails(t, "5 sport 1-2 dport 1 sport"+behind, api.ErrTwice, 20)
	}
	// Where no clause begins the word can't stand, whether it stands in the line already or not.
	fails(t, "5 proto proto 6 -> drop", api.ErrSyntax, 8)
	fails(t, "5 proto 6 -> proto", api.ErrSyntax, 13)
	fails(t, "5 proto 6 -> drop proto 6", api.ErrSyntax, 18)
	fails(t, "5 src 1.2.3.4/src", api.ErrSyntax, 14)
	// Other lines have words of their own.
	says(t, "1 proto 6 -> drop\n2 proto 6 -> drop", drop(0, 1, clause(2, "proto", fig(6, 8))), drop(18, 2, clause(20, "proto", fig(6, 26))))
	// Of the five, one that stands there no more than once may come.
	fails(t, "5 sport 1 port 2 -> drop", api.ErrSyntax, 10)
	fails(t, "5 x 1 x 1 -> drop", api.ErrSyntax, 2)
}

// TestP61EveryPlace lays each token, a line end and the text's end at every place of lines, with a right line ahead and behind.
func TestP61EveryPlace(t *testing.T) {
	others := []string{"", "\n", "7", ".", "/", "-", "->", "default", "src", "dst", "sport", "dport", "proto", "drop", "port", "word", "srcs", "defaul"}
	lines := []string{
		"5 src 1 . 2 . 3 . 4 / 5 dport 6 - 7 -> port 8",
		"5 dst 1 . 2 . 3 . 4 sport 6 proto 7 -> drop",
		"5 proto 1 dport 2 -> drop",
		"5 -> port 1",
		"default -> port 1",
		"default -> drop",
	}
	for _, line := range lines {
		l := strings.Split(line, " ")
		for i := range len(l) + 1 {
			begin, rest := strings.Join(l[:i], " "), strings.Join(l[i:], " ")
			for _, x := range others {
				for _, ahead := range []string{"", "1 -> drop\n", "\n"} {
					for _, behind := range []string{"", "\n", "\n2 -> drop"} {
						agrees(t, ahead+begin+" "+x+" "+rest+behind)
						agrees(t, ahead+begin+" "+x+behind)
					}
				}
				if i < len(l) {
					agrees(t, begin+" "+x+" "+strings.Join(l[i+1:], " "))
				}
			}
		}
	}
}

func TestP61Places(t *testing.T) {
	for s, at := range map[string]int{
		"x":                            0,
		"drop":                         0,
		"->":                           0,
		".":                            0,
		"src 1.2.3.4 -> drop":          0,
		"5":                            1,
		"5 ":                           2,
		"5 # x":                        5,
		"5\n":                          1,
		"5 # x\n":                      5,
		"5 drop":                       2,
		"5 6 -> drop":                  2,
		"5 default -> drop":            2,
		"5 ->":                         4,
		"5 -> 3":                       5,
		"5 -> x":                       5,
		"5 -> port":                    9,
		"5 -> port\n3":                 9,
		"5 -> port x":                  10,
		"5 -> port 3 4":                12,
		"5 -> drop 3":                  10,
		"5 -> drop -> drop":            10,
		"5 -> default":                 5,
		"5 src":                        5,
		"5 src 1":                      7,
		"5 src 1.":                     8,
		"5 src 1.2.3":                  11,
		"5 src 1.2.3 ":                 12,
		"5 src 1.2.3.":                 12,
		"5 src 1.2.3.4":                13,
		"5 src 1.2.3.4.5 -> drop":      13,
		"5 src 1.2.3.4/":               14,
		"5 src 1.2.3.4/ -> drop":       15,
		"5 src 1.2.3.4/5/6 -> drop":    15,
		"5 src 1.2.3.4-5 -> drop":      13,
		"5 src 1.2.3/5 -> drop":        11,
		"5 src /5 -> drop":             6,
		"5 dst .1":                     6,
		"5 dst 1 2":                    8,
		"5 dst\n1.2.3.4 -> drop":       5,
		"5 sport -> drop":              8,
		"5 sport 1- -> drop":           11,
		"5 sport 1-\n2 -> drop":        10,
		"5 sport 1-2-3 -> drop":        11,
		"5 sport 1/2 -> drop":          9,
		"5 dport 1.2 -> drop":          9,
		"5 dport -1 -> drop":           8,
		"5 dport x -> drop":            8,
		"5 proto -> drop":              8,
		"5 proto 1-2 -> drop":          9,
		"5 proto 1/2 -> drop":          9,
		"5 proto 1.2 -> drop":          9,
		"5 proto 1 2 -> drop":          10,
		"default":                      7,
		"default\n":                    7,
		"default 5 -> drop":            8,
		"default src 1.2.3.4 -> drop":  8,
		"default proto 6 -> drop":      8,
		"default default -> drop":      8,
		"default drop":                 8,
		"default ->\ndrop":             10,
		"defaults -> drop":             0,
		"1 -> drop default -> drop":    10,
		"1 -> drop\n\n\nx":             12,
		"1 -> drop 2 -> drop":          10,
		"\n\n  7 srcs 1.2.3.4 -> drop": 6,
		"7 dports 80 -> drop":          2,
		"7 s 80 -> drop":               2,
		"7 port 80 -> drop":            2,
		"7 -> dropp":                   5,
		"7 -> ports 1":                 5,
		"7 -":                          2,
		"1 -> drop\ndefault -> drop\n2 -> port\n": 35,
	} {
		fails(t, s, api.ErrSyntax, at)
	}
}

func TestP61TokensRefused(t *testing.T) {
	for _, ahead := range []string{"", "5 -> x ", "default 5 ", "5 proto 6 proto ", "\n.", strings.Repeat("1->drop\n", 65), "5 -> drop\n"} {
		fails(t, ahead+"01", api.ErrNumber, len(ahead))
		fails(t, ahead+"4294967296 A", api.ErrNumber, len(ahead))
		fails(t, ahead+"A 01", api.ErrByte, len(ahead))
		fails(t, ahead+"> 5", api.ErrByte, len(ahead))
		fails(t, ahead+"\xff", api.ErrByte, len(ahead))
	}
	for _, s := range []string{" ", "1->drop\n", "x", "A", "01 ", "#", "\xff"} {
		fails(t, strings.Repeat(s, 4097), api.ErrLong, 4096)
		fails(t, strings.Repeat(s, 4097)[:4097], api.ErrLong, 4096)
	}
	says(t, strings.Repeat(" ", 4087)+"1 -> drop", drop(4087, 1))
	fails(t, strings.Repeat(" ", 4088)+"1 -> drop", api.ErrLong, 4096)
	fails(t, "1 ->"+strings.Repeat(" ", 4092), api.ErrSyntax, 4096)
	says(t, "1 -> drop"+strings.Repeat(" ", 4087), drop(0, 1))
}

func TestP61Many(t *testing.T) {
	full := strings.Repeat("1->drop\n", 64)
	for _, s := range []string{full, full[:len(full)-1], "\n" + full, strings.Repeat("1->drop\n\n#\n", 64), full + "\n \n# x\n"} {
		l, e, at := Parse(s)
		if len(l) != 64 || e != api.OK || at != 0 {
			t.Fatalf("%d lines, %d, %d", len(l), e, at)
		}
		agrees(t, s)
	}
	for _, behind := range []string{"1->drop", "default -> drop", "default", "5", "x", "->", ".", "drop", "1 src", "/\n\n", "1->drop\n1->drop"} {
		fails(t, full+behind, api.ErrMany, 512)
		fails(t, full+"\n  "+behind, api.ErrMany, 515)
		fails(t, full+"# x\n"+behind, api.ErrMany, 516)
	}
	fails(t, full[:len(full)-1]+" 1->drop", api.ErrSyntax, 512)
	fails(t, strings.Repeat("1->drop\n", 63)+"1->\n1->drop", api.ErrSyntax, 507)
	fails(t, strings.Repeat("1->drop\n", 63)+"x\n1->drop\n1->drop", api.ErrSyntax, 504)
	fails(t, full+"1->drop\n01", api.ErrNumber, 520)
	fails(t, strings.Repeat("x\n", 100), api.ErrSyntax, 0)
}

func TestP61FirstFromTheLeft(t *testing.T) {
	fails(t, "5 x 1 -> y", api.ErrSyntax, 2)
	fails(t, "5 proto 6 proto 6 -> y", api.ErrTwice, 10)
	fails(t, "5 proto x proto 6 -> drop", api.ErrSyntax, 8)
	fails(t, "5 proto 6 x proto 6 -> drop", api.ErrSyntax, 10)
	fails(t, "5 -> x\n5 proto 6 proto 6 -> drop", api.ErrSyntax, 5)
	fails(t, "5 proto 6 proto 6 -> drop\n5 -> x", api.ErrTwice, 10)
	fails(t, "5 src 1.2.3.4 src 1 -> drop", api.ErrTwice, 14)
	fails(t, "5 src 1.2.3 src 1.2.3.4 -> drop", api.ErrSyntax, 12)
	fails(t, "5 dport 1 sport 2 dport 1 sport 2 -> drop", api.ErrTwice, 18)
}

func TestP61Model(t *testing.T) {
	tokens := []string{"1", ".", "/", "-", "->", "\n", "default", "src", "dport", "proto", "drop", "port", "x"}
	var short func(s string, left int)
	short = func(s string, left int) {
		agrees(t, s)
		for i := 0; i < len(tokens) && left > 0; i++ {
			short(s+" "+tokens[i], left-1)
		}
	}
	short("", 4)
	short("5 proto 6", 3)
	short("5 src 1.2.3.4/8 dport 7", 3)
	short("1 -> port", 3)
	n := noise(61)
	for range 4000 {
		l := n.policy(n.below(8))
		for range n.below(3) {
			i := n.below(len(l) + 1)
			switch n.below(3) {
			case 0:
				l = slices.Insert(l, i, n.pick(tokens))
			case 1:
				if i < len(l) {
					l[i] = n.pick(tokens)
				}
			case 2:
				if i < len(l) {
					l = slices.Delete(l, i, i+1)
				}
			}
		}
		s := n.spaced(l)
		agrees(t, s)
		agrees(t, s[:n.below(len(s)+1)])
		agrees(t, strings.Repeat(s+"\n", 9))
	}
}

func TestP62Examples(t *testing.T) {
	for _, s := range []string{
		"",
		"5 src 10.0.0.0/8 dport 80-90 -> port 3\n",
		"default -> drop\n",
		"default -> port 4294967295\n",
		"0 -> drop\n",
		"1 proto 6 sport 0 dst 1.2.3.4 -> drop\n2 -> port 9\ndefault -> port 1\n",
	} {
		l, e, _ := Parse(s)
		if got := Print(l); e != api.OK || got != s {
			t.Errorf("%q: %q, %d", s, got, e)
		}
	}
	l, _, _ := Parse("# a policy\n5src 10 . 0.0.0 /8\tdport 80 -90->port 3\r\n\n\ndefault->drop # all else")
	if s := Print(l); s != "5 src 10.0.0.0/8 dport 80-90 -> port 3\ndefault -> drop\n" {
		t.Errorf("%q", s)
	}
}

func TestP62Lines(t *testing.T) {
	const least, greatest = -1 << 63, 1<<63 - 1
	for _, x := range []struct {
		line api.Raw
		s    string
	}{
		{api.Raw{}, "0 -> port 0\n"},
		{api.Raw{Drop: true}, "0 -> drop\n"},
		{api.Raw{Drop: true, Port: fig(5, 1)}, "0 -> drop\n"},
		{api.Raw{Default: true}, "default -> port 0\n"},
		{api.Raw{Default: true, Prio: fig(5, 1), Port: fig(7, 2)}, "default -> port 7\n"},
		{api.Raw{Default: true, Drop: true, Clauses: []api.Clause{clause(1, "proto", fig(6, 2))}}, "default proto 6 -> drop\n"},
		{api.Raw{Prio: fig(-5, 1), Port: fig(-7, 2)}, "-5 -> port -7\n"},
		{api.Raw{Prio: fig(least, 1), Port: fig(greatest, 2)}, "-9223372036854775808 -> port 9223372036854775807\n"},
		{api.Raw{Prio: fig(greatest, 1), Port: fig(least, 2)}, "9223372036854775807 -> port -9223372036854775808\n"},
		{api.Raw{Pos: 77, Prio: fig(1, 88), Clauses: []api.Clause{}, Port: fig(2, 99)}, "1 -> port 2\n"},
	} {
		if s := Print([]api.Raw{x.line}); s != x.s {
			t.Errorf("%v: %q, not %q", x.line, s, x.s)
		}
	}
	if s := Print(nil) + Print([]api.Raw{}); s != "" {
		t.Errorf("%q", s)
	}
	if s := Print([]api.Raw{{}, {Default: true, Drop: true}, {Prio: fig(3, 0)}}); s != "0 -> port 0\ndefault -> drop\n3 -> port 0\n" {
		t.Errorf("%q", s)
	}
}

func TestP62Clauses(t *testing.T) {
	nums := []api.Figure{fig(1, 9), fig(-2, 9), fig(0, 9), fig(-1<<63, 9), fig(1<<63-1, 9)}
	wants := map[int][4]string{ // neither, Slash, Dash, both
		0: {"", "", "", ""},
		1: {"1", "1", "1", "1"},
		2: {"1.-2", "1/-2", "1--2", "1/-2"},
		3: {"1.-2.0", "1.-2/0", "1.-2-0", "1.-2/0"},
		5: {"1.-2.0.-9223372036854775808.9223372036854775807", "1.-2.0.-9223372036854775808/9223372036854775807", "1.-2.0.-9223372036854775808-9223372036854775807", "1.-2.0.-9223372036854775808/9223372036854775807"},
	}
	for many, want := range wants {
		for kind, w := range want {
			for _, word := range []string{"src", "sport", "proto", "", "none of them", "\xff\n", "default"} {
				c := api.Clause{Word: word, Pos: 3, Nums: nums[:many], Slash: kind&1 != 0, Dash: kind&2 != 0}
				got := Print([]api.Raw{{Prio: fig(4, 0), Clauses: []api.Clause{c, c}, Drop: true}})
				if s := "4 " + word + " " + w + " " + word + " " + w + " -> drop\n"; got != s {
					t.Errorf("%v: %q, not %q", c, got, s)
				}
			}
		}
	}
}

func TestP62Model(t *testing.T) {
	n := noise(62)
	words := []string{"src", "dst", "sport", "dport", "proto", "", "x", "->", "é"}
	some := []int{0, 1, -1, 9, 10, -10, 99, 100, 4294967295, 1 << 40, -1 << 63, 1<<63 - 1}
	num := func() api.Figure { return fig(some[n.below(len(some))], n.below(100)) }
	for range 3000 {
		var l []api.Raw
		for range n.below(5) {
			x := api.Raw{Default: n.below(3) == 0, Prio: num(), Drop: n.below(2) == 0, Port: num()}
			for range n.below(4) {
				c := api.Clause{Word: n.pick(words), Slash: n.below(2) == 0, Dash: n.below(2) == 0}
				for range n.below(6) {
					c.Nums = append(c.Nums, num())
				}
				x.Clauses = append(x.Clauses, c)
			}
			l = append(l, x)
		}
		if got, want := Print(l), printed(l); got != want {
			t.Fatalf("%v: %q, not %q", l, got, want)
		}
	}
}

func TestP62ManyLines(t *testing.T) {
	l := make([]api.Raw, 100000)
	if s := Print(l); s != strings.Repeat("0 -> port 0\n", len(l)) {
		t.Error(len(s))
	}
}

func TestP63Again(t *testing.T) {
	n := noise(63)
	right, long := 0, 0
	for range 1000 {
		s := n.spaced(n.policy(n.below(65)))
		l, e, at := Parse(s)
		if len(s) > 4096 {
			fails(t, s, api.ErrLong, 4096)
			continue
		}
		if e != api.OK {
			t.Fatalf("Parse(%q): %d, %d", s, e, at)
		}
		text := Print(l)
		// A text without blanks is longer when it is printed: then it can be too long to be parsed again.
		if len(text) > 4096 {
			fails(t, text, api.ErrLong, 4096)
			long++
			continue
		}
		m, e, at := Parse(text)
		if e != api.OK || at != 0 || !reflect.DeepEqual(unplaced(l), unplaced(m)) {
			t.Fatalf("%q, printed %q: %v, %d, %d, not %v", s, text, m, e, at, l)
		}
		if again := Print(m); again != text {
			t.Fatalf("%q, not %q", again, text)
		}
		right++
	}
	if right < 200 {
		t.Error(right, long)
	}
}

func TestP63AllLines(t *testing.T) {
	// Every row that is a line, with a number of its own for each Num.
	for row, whole := range begins {
		if whole != 2 {
			continue
		}
		s := ""
		for i := range len(row) {
			s += " " + spelling(row[i], i)
		}
		agrees(t, s)
		l, e, _ := Parse(s)
		m, f, _ := Parse(Print(l))
		if e != api.OK || f != api.OK || len(l) != 1 || !reflect.DeepEqual(unplaced(l), unplaced(m)) {
			t.Fatalf("%q: %v, %d; %v, %d", s, l, e, m, f)
		}
	}
}

// spelling is a token that has a sign.
func spelling(c byte, i int) string {
	for word, x := range signs {
		if x == c {
			return word
		}
	}
	switch c {
	case 'N':
		return numbers[i%len(numbers)]
	case '>':
		return "->"
	}
	return string(rune(c))
}

func TestP63LongerWhenPrinted(t *testing.T) {
	line := "11src1.1.1.1dst1.1.1.1sport1-1dport1-1proto1->port1\n"
	l, e, _ := Parse(strings.Repeat(line, 64))
	if e != api.OK || len(l) != 64 {
		t.Fatal(len(l), e)
	}
	text := Print(l)
	if len(text) <= 4096 {
		t.Fatal(len(text))
	}
	fails(t, text, api.ErrLong, 4096)
}

func TestAnswersAreNew(t *testing.T) {
	s := strings.Repeat("5 src 1.2.3.4/5 dport 6-7 proto 8 -> port 9\n", 20)
	l, _, _ := Parse(s)
	m, _, _ := Parse(s)
	if len(l) != 20 || len(m) != 20 {
		t.Fatal(len(l), len(m))
	}
	want := deep(m)
	from := uintptr(unsafe.Pointer(unsafe.StringData(s)))
	for i := range l {
		for j := range l[i].Clauses {
			c := &l[i].Clauses[j]
			if at := uintptr(unsafe.Pointer(unsafe.StringData(c.Word))); at >= from && at < from+uintptr(len(s)) {
				t.Errorf("the word at %d shares the text's memory", c.Pos)
			}
			for k := range c.Nums {
				c.Nums[k] = fig(-1, -1)
			}
			// What is put into a list's spare room must not show in another list.
			_ = append(c.Nums, fig(-1, -1), fig(-1, -1))
		}
		_ = append(l[i].Clauses, api.Clause{Word: "x"})
	}
	if !reflect.DeepEqual(m, want) {
		t.Error("two answers share memory")
	}
	k := deep(want)
	for i := range m {
		for j := range m[i].Clauses {
			_ = append(m[i].Clauses[j].Nums, fig(-1, -1), fig(-1, -1), fig(-1, -1), fig(-1, -1))
		}
		_ = append(m[i].Clauses, api.Clause{Word: "x"}, api.Clause{Word: "y"})
	}
	if !reflect.DeepEqual(m, k) {
		t.Error("two lists of an answer share memory")
	}
}

func TestArgumentsStay(t *testing.T) {
	l, _, _ := Parse("5 src 1.2.3.4/5 dport 6-7 -> port 9\ndefault -> drop\n")
	room := append(deep(l), api.Raw{Pos: 1234})
	full := deep(room)
	a, b := Print(room[:2]), Print(room[:2])
	if !reflect.DeepEqual(room, full) {
		t.Error(room)
	}
	if a != b || a != "5 src 1.2.3.4/5 dport 6-7 -> port 9\ndefault -> drop\n" {
		t.Errorf("%q, %q", a, b)
	}
	if unsafe.StringData(a) == unsafe.StringData(b) {
		t.Error("two answers share memory")
	}
	room[0].Clauses[0].Nums[0].N = 7
	room[0].Clauses[0].Word = "x"
	if a != b {
		t.Errorf("%q", a)
	}
}
