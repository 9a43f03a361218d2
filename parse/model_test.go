package parse

import (
	"fmt"
	"reflect"
	"strings"
	"testing"

	"milepost/api"
	"milepost/lex"
)

// What the tests reckon with: every line that there can be, written out as a row of signs, one for each token. A token can stand where it does if some of these rows begin so.

// signs has a sign for each word of the chapter.
var signs = map[string]byte{"default": 'f', "src": 's', "dst": 'd', "sport": 'S', "dport": 'D', "proto": 'p', "drop": 'x', "port": 'o'}

// clauseSigns has those of the words with which a clause begins.
const clauseSigns = "sdSDp"

// sign is a token's sign. A word that is none of the chapter's has one that no row has.
func sign(t api.Token) byte {
	switch t.Kind {
	case api.Word:
		if c, ok := signs[t.Text]; ok {
			return c
		}
		return '?'
	case api.Num:
		return 'N'
	case api.Dot:
		return '.'
	case api.Slash:
		return '/'
	case api.Dash:
		return '-'
	case api.Arrow:
		return '>'
	}
	return '\n'
}

// shapes are the ways in which a clause's numbers can be written.
var shapes = map[byte][]string{
	's': {"sN.N.N.N", "sN.N.N.N/N"},
	'd': {"dN.N.N.N", "dN.N.N.N/N"},
	'S': {"SN", "SN-N"},
	'D': {"DN", "DN-N"},
	'p': {"pN"},
}

// begins has every row that a line begins with; the value is 2 where that is a whole line, else 1.
var begins = func() map[string]int {
	out := map[string]int{}
	whole := func(s string) {
		for i := range len(s) {
			if out[s[:i]] == 0 {
				out[s[:i]] = 1
			}
		}
		out[s] = 2
	}
	var grow func(s string, left string)
	grow = func(s string, left string) {
		whole(s + ">x")
		whole(s + ">oN")
		for i := range len(left) {
			for _, shape := range shapes[left[i]] {
				grow(s+shape, left[:i]+left[i+1:])
			}
		}
	}
	grow("N", clauseSigns)
	whole("f>x")
	whole("f>oN")
	return out
}()

// answer is what a call of Parse says.
type answer struct {
	lines []api.Raw
	e     api.Errno
	at    int
}

func ask(s string) answer {
	l, e, at := Parse(s)
	return answer{l, e, at}
}

// model reckons by the rows what a text's lines are.
func model(s string) answer {
	tokens, e, at := lex.Tokens(s)
	if e != api.OK {
		return answer{nil, e, at}
	}
	var out []api.Raw
	for len(tokens) > 0 {
		size := 0
		for size < len(tokens) && tokens[size].Kind != api.Line {
			size++
		}
		behind := len(s)
		if size < len(tokens) {
			behind = tokens[size].Pos
		}
		if size > 0 && len(out) == 64 {
			return answer{nil, api.ErrMany, tokens[0].Pos}
		}
		if size > 0 {
			if e, at := wrong(tokens[:size], behind); e != api.OK {
				return answer{nil, e, at}
			}
			out = append(out, build(tokens[:size]))
		}
		tokens = tokens[min(size+1, len(tokens)):]
	}
	return answer{out, api.OK, 0}
}

// wrong is what is wrong first with a line's tokens, and where.
func wrong(l []api.Token, behind int) (api.Errno, int) {
	row := ""
	for _, t := range l {
		c := string(sign(t))
		if begins[row+c] == 0 {
			clause := strings.Contains(clauseSigns, c) && row[:min(1, len(row))] == "N" && begins[row+">"] > 0
			if clause && strings.Contains(row, c) {
				return api.ErrTwice, t.Pos
			}
			return api.ErrSyntax, t.Pos
		}
		row += c
	}
	if begins[row] != 2 {
		return api.ErrSyntax, behind
	}
	return api.OK, 0
}

// build makes a line of tokens that are one, by what its numbers stand behind.
func build(l []api.Token) api.Raw {
	out := api.Raw{Pos: l[0].Pos}
	var word string
	for i, t := range l {
		f := api.Figure{N: t.N, Pos: t.Pos}
		last := len(out.Clauses) - 1
		switch c := sign(t); {
		case c == 'f':
			out.Default = true
		case c == 'x':
			out.Drop = true
		case strings.IndexByte(clauseSigns, c) >= 0:
			out.Clauses = append(out.Clauses, api.Clause{Word: t.Text, Pos: t.Pos})
		case c == '/':
			out.Clauses[last].Slash = true
		case c == '-':
			out.Clauses[last].Dash = true
		case c == 'N' && i == 0:
			out.Prio = f
		case c == 'N' && word == "port":
			out.Port = f
		case c == 'N':
			out.Clauses[last].Nums = append(out.Clauses[last].Nums, f)
		}
		if t.Kind == api.Word {
			word = t.Text
		}
	}
	return out
}

// printed writes lines as the chapter says, each number by itself.
func printed(l []api.Raw) string {
	out := ""
	for _, x := range l {
		line := fmt.Sprint(x.Prio.N)
		if x.Default {
			line = "default"
		}
		for _, c := range x.Clauses {
			var nums []string
			for _, f := range c.Nums {
				nums = append(nums, fmt.Sprint(f.N))
			}
			tail := ""
			if n := len(nums); n > 1 {
				sep := "."
				if c.Dash {
					sep = "-"
				}
				if c.Slash {
					sep = "/"
				}
				tail = sep + nums[n-1]
				nums = nums[:n-1]
			}
			line += " " + c.Word + " " + strings.Join(nums, ".") + tail
		}
		action := fmt.Sprintf("port %d", x.Port.N)
		if x.Drop {
			action = "drop"
		}
		out += line + " -> " + action + "\n"
	}
	return out
}

// unplaced are lines without their places. A nil list and an empty one are one.
func unplaced(l []api.Raw) []api.Raw {
	var out []api.Raw
	for _, x := range l {
		y := x
		y.Pos, y.Prio.Pos, y.Port.Pos, y.Clauses = 0, 0, 0, nil
		for _, c := range x.Clauses {
			d := c
			d.Pos, d.Nums = 0, nil
			for _, f := range c.Nums {
				d.Nums = append(d.Nums, api.Figure{N: f.N})
			}
			y.Clauses = append(y.Clauses, d)
		}
		out = append(out, y)
	}
	return out
}

// deep is a copy of lines that shares nothing with them.
func deep(l []api.Raw) []api.Raw {
	var out []api.Raw
	for _, x := range l {
		var cs []api.Clause
		for _, c := range x.Clauses {
			c.Nums = append([]api.Figure(nil), c.Nums...)
			cs = append(cs, c)
		}
		x.Clauses = cs
		out = append(out, x)
	}
	return out
}

// agrees holds what Parse answers against the model.
func agrees(t *testing.T, s string) {
	t.Helper()
	if got, want := ask(s), model(s); !same(got, want) {
		t.Errorf("Parse(%q): %v, not %v", s, got, want)
	}
}

func same(a answer, b answer) bool {
	return a.e == b.e && a.at == b.at && (len(a.lines) == 0 && len(b.lines) == 0 || reflect.DeepEqual(a.lines, b.lines))
}

// noise is a row of numbers without a pattern, always the same one.
type noise uint64

func (n *noise) below(limit int) int {
	*n ^= *n << 13
	*n ^= *n >> 7
	*n ^= *n << 17
	return int(*n>>32) % limit
}

func (n *noise) pick(l []string) string {
	return l[n.below(len(l))]
}

var numbers = []string{"0", "1", "5", "8", "10", "32", "99", "255", "65535", "65536", "4294967295"}

// clause is one that begins with a word.
func (n *noise) clause(word string) []string {
	num := func() string { return n.pick(numbers) }
	out := []string{word, num()}
	switch word {
	case "src", "dst":
		out = append(out, ".", num(), ".", num(), ".", num())
		if n.below(2) == 0 {
			out = append(out, "/", num())
		}
	case "sport", "dport":
		if n.below(2) == 0 {
			out = append(out, "-", num())
		}
	}
	return out
}

// line is a right one, token by token.
func (n *noise) line() []string {
	out := []string{"default"}
	if n.below(5) > 0 {
		out = []string{n.pick(numbers)}
		words := []string{"src", "dst", "sport", "dport", "proto"}
		for range n.below(6) {
			i := n.below(len(words))
			out = append(out, n.clause(words[i])...)
			words = append(words[:i], words[i+1:]...)
		}
	}
	if n.below(2) == 0 {
		return append(out, "->", "drop")
	}
	return append(out, "->", "port", n.pick(numbers))
}

// policy is a right one of so many lines, token by token, with empty lines here and there.
func (n *noise) policy(lines int) []string {
	var out []string
	for i := range lines {
		for i > 0 && len(out) > 0 && (out[len(out)-1] != "\n" || n.below(4) == 0) {
			out = append(out, "\n")
		}
		out = append(out, n.line()...)
	}
	if n.below(2) == 0 {
		out = append(out, "\n")
	}
	return out
}

// spaced joins tokens with what stands for nothing between.
func (n *noise) spaced(tokens []string) string {
	gaps := []string{" ", " ", "  ", "\t", "\r", " \t "}
	out := ""
	for _, x := range tokens {
		if x == "\n" && n.below(4) == 0 {
			out += "# 5 src -> \xff drop"
		}
		out += n.pick(gaps) + x
	}
	return out
}
