package lex

import (
	"math/big"
	"regexp"
	"strings"

	"milepost/api"
)

// What the tests reckon with: the chapter's words as patterns, and numbers of any length.

var (
	nothing = regexp.MustCompile(`^(?:[\t\r ]|#[^\n]*)+`)
	shapes  = []struct {
		kind  int
		shape *regexp.Regexp
	}{
		{api.Word, regexp.MustCompile(`^[a-z]+`)},
		{api.Num, regexp.MustCompile(`^[0-9]+`)},
		{api.Dot, regexp.MustCompile(`^\.`)},
		{api.Slash, regexp.MustCompile(`^/`)},
		{api.Arrow, regexp.MustCompile(`^->`)},
		{api.Dash, regexp.MustCompile(`^-`)},
		{api.Line, regexp.MustCompile(`^\n`)},
	}
)

// answer is what a call of Tokens says.
type answer struct {
	tokens []api.Token
	e      api.Errno
	at     int
}

func ask(s string) answer {
	l, e, at := Tokens(s)
	return answer{l, e, at}
}

// model reckons by patterns what a text's tokens are.
func model(s string) answer {
	if len(s) > 4096 {
		return answer{nil, api.ErrLong, 4096}
	}
	var out []api.Token
	for at := 0; at < len(s); {
		if void := nothing.FindString(s[at:]); void != "" {
			at += len(void)
			continue
		}
		kind, found := match(s[at:])
		if kind == 0 {
			return answer{nil, api.ErrByte, at}
		}
		t := api.Token{Kind: kind, Pos: at}
		switch kind {
		case api.Word:
			t.Text = found
		case api.Num:
			n, _ := new(big.Int).SetString(found, 10)
			if n.String() != found || n.BitLen() > 32 {
				return answer{nil, api.ErrNumber, at}
			}
			t.N = int(n.Int64())
		}
		out = append(out, t)
		at += len(found)
	}
	return answer{out, api.OK, 0}
}

func match(s string) (int, string) {
	for _, x := range shapes {
		if found := x.shape.FindString(s); found != "" {
			return x.kind, found
		}
	}
	return 0, ""
}

// unplaced are tokens' kinds, words and numbers without their places.
func unplaced(l []api.Token) []api.Token {
	var out []api.Token
	for _, x := range l {
		x.Pos = 0
		out = append(out, x)
	}
	return out
}

// known has all bytes that belong to a token or stand for nothing.
const known = "abcdefghijklmnopqrstuvwxyz0123456789./-\n\t\r #"

// strangers are the bytes that do neither.
func strangers() []byte {
	var out []byte
	for b := range 256 {
		if !strings.Contains(known, string([]byte{byte(b)})) {
			out = append(out, byte(b))
		}
	}
	return out
}

// noise is a row of numbers without a pattern, always the same one.
type noise uint64

func (n *noise) below(limit int) int {
	*n ^= *n << 13
	*n ^= *n >> 7
	*n ^= *n << 17
	return int(*n>>32) % limit
}

// mixture joins so many pieces, each drawn from a list.
func (n *noise) mixture(many int, pieces []string) string {
	var b strings.Builder
	for range many {
		b.WriteString(pieces[n.below(len(pieces))])
	}
	return b.String()
}
