package parse

import (
	"strconv"

	"milepost/api"
)

// Print: lines as text.
func Print(l []api.Raw) string {
	var b []byte
	for _, x := range l {
		b = printLine(b, x)
	}
	return string(b)
}

func printLine(b []byte, x api.Raw) []byte {
	if x.Default {
		b = append(b, "default"...)
	} else {
		b = printFigure(b, x.Prio)
	}
	for _, c := range x.Clauses {
		b = printClause(b, c)
	}
	b = append(b, " -> "...)
	if x.Drop {
		b = append(b, "drop"...)
	} else {
		b = append(b, "port "...)
		b = printFigure(b, x.Port)
	}
	return append(b, '\n')
}

func printClause(b []byte, c api.Clause) []byte {
	b = append(b, ' ')
	b = append(b, c.Word...)
	b = append(b, ' ')
	for i, f := range c.Nums {
		if i > 0 {
			b = append(b, between(c, i))
		}
		b = printFigure(b, f)
	}
	return b
}

// between is the sign ahead of a clause's number that isn't its first.
func between(c api.Clause, i int) byte {
	last := i == len(c.Nums)-1
	switch {
	case last && c.Slash:
		return '/'
	case last && c.Dash:
		return '-'
	}
	return '.'
}

func printFigure(b []byte, f api.Figure) []byte {
	return strconv.AppendInt(b, int64(f.N), 10)
}
