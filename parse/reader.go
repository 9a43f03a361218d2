package parse

import (
	"slices"

	"milepost/api"
)

// addressNums is how many numbers an address has, with a Dot between.
const addressNums = 4

// fault is what a reader gives up with, by a panic: an error and its place.
type fault struct {
	e   api.Errno
	pos int
}

// reader goes through a text's tokens from the left.
type reader struct {
	rest []api.Token
	end  int
}

// peek is the next token. At the text's end it is none of any kind, and stands where the end is: so what can't stand there is told alike.
func (r *reader) peek() api.Token {
	if len(r.rest) == 0 {
		return api.Token{Pos: r.end}
	}
	return r.rest[0]
}

// take is the next token, which must be of a kind.
func (r *reader) take(kind int) api.Token {
	t := r.peek()
	if t.Kind != kind {
		panic(fault{api.ErrSyntax, t.Pos})
	}
	r.rest = r.rest[1:]
	return t
}

func (r *reader) figure() api.Figure {
	t := r.take(api.Num)
	return api.Figure{N: t.N, Pos: t.Pos}
}

func (r *reader) lines() []api.Raw {
	var out []api.Raw
	for len(r.rest) > 0 {
		t := r.peek()
		if t.Kind == api.Line {
			r.take(api.Line)
			continue
		}
		if len(out) == api.MaxLines {
			panic(fault{api.ErrMany, t.Pos})
		}
		out = append(out, r.line())
		if len(r.rest) > 0 {
			r.take(api.Line)
		}
	}
	return out
}

// line is a line up to what ends it.
func (r *reader) line() api.Raw {
	first := r.peek()
	out := api.Raw{Pos: first.Pos}
	if first.Text == "default" {
		r.take(api.Word)
		out.Default = true
	} else {
		out.Prio = r.figure()
		out.Clauses = r.clauses()
	}
	r.take(api.Arrow)
	out.Drop, out.Port = r.action()
	return out
}

func (r *reader) clauses() []api.Clause {
	var out []api.Clause
	for r.peek().Kind == api.Word {
		t := r.take(api.Word)
		if slices.ContainsFunc(out, func(c api.Clause) bool { return c.Word == t.Text }) {
			panic(fault{api.ErrTwice, t.Pos})
		}
		out = append(out, r.clause(t))
	}
	return out
}

// clause is what a word and the tokens behind it say.
func (r *reader) clause(t api.Token) api.Clause {
	out := api.Clause{Word: t.Text, Pos: t.Pos}
	switch t.Text {
	case "src", "dst":
		out.Nums = r.address()
		out.Slash = r.follows(api.Slash)
	case "sport", "dport":
		out.Nums = []api.Figure{r.figure()}
		out.Dash = r.follows(api.Dash)
	case "proto":
		out.Nums = []api.Figure{r.figure()}
	default:
		panic(fault{api.ErrSyntax, t.Pos})
	}
	if out.Slash || out.Dash {
		out.Nums = append(out.Nums, r.figure())
	}
	return out
}

func (r *reader) address() []api.Figure {
	out := []api.Figure{r.figure()}
	for len(out) < addressNums {
		r.take(api.Dot)
		out = append(out, r.figure())
	}
	return out
}

// follows takes the next token if it is of a kind, and says whether it was.
func (r *reader) follows(kind int) bool {
	if r.peek().Kind != kind {
		return false
	}
	r.take(kind)
	return true
}

// action is whether it is drop, and else the port.
func (r *reader) action() (bool, api.Figure) {
	t := r.take(api.Word)
	switch t.Text {
	case "drop":
		return true, api.Figure{}
	case "port":
		return false, r.figure()
	}
	panic(fault{api.ErrSyntax, t.Pos})
}
