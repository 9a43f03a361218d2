package sense

import (
	"fmt"
	"reflect"
	"slices"
	"strings"
	"testing"

	"milepost/api"
)

// What the tests reckon with: of lines all that is wrong, and only then the first of it; of headers and addresses their digits of noughts and ones; of entries those that apply, put in order.

// answer is what a call of Check or Read says.
type answer struct {
	entries []api.Entry
	e       api.Errno
	at      int
}

func ask(l []api.Raw, size int) answer {
	out, e, at := Check(l, size)
	return answer{out, e, at}
}

func read(s string) answer {
	out, e, at := Read(s)
	return answer{out, e, at}
}

func same(a answer, b answer) bool {
	return a.e == b.e && a.at == b.at && slices.Equal(a.entries, b.entries)
}

// forms has for each word how many numbers there are: without and with the sign that may stand ahead of the last one.
var forms = map[string][2]int{"src": {4, 5}, "dst": {4, 5}, "sport": {1, 2}, "dport": {1, 2}, "proto": {1, 1}}

// lasts has for each word the greatest that its numbers may be, one by one.
var lasts = map[string][]int{
	"src":   {255, 255, 255, 255, 32},
	"dst":   {255, 255, 255, 255, 32},
	"sport": {65535, 65535},
	"dport": {65535, 65535},
	"proto": {255},
}

// wrong is all that is wrong with lines, in the chapter's order.
func wrong(l []api.Raw, size int) []answer {
	var out []answer
	tell := func(bad bool, e api.Errno, at int) {
		if bad {
			out = append(out, answer{e: e, at: at})
		}
	}
	defaults := 0
	for i, x := range l {
		tell(i > 63, api.ErrMany, x.Pos)
		if x.Default {
			defaults++
			tell(defaults > 1, api.ErrTwice, x.Pos)
		} else {
			tell(x.Prio.N < 0 || x.Prio.N > 65535, api.ErrRange, x.Prio.Pos)
			out = append(out, wrongClauses(x.Clauses)...)
		}
		tell(!x.Drop && (x.Port.N < 1 || x.Port.N > 99), api.ErrRange, x.Port.Pos)
	}
	tell(defaults == 0, api.ErrDefault, size)
	return out
}

func wrongClauses(l []api.Clause) []answer {
	var out []answer
	seen := map[string]int{}
	for _, c := range l {
		form, known := forms[c.Word]
		longer := 0
		if c.Slash && form[0] == 4 || c.Dash && form[0] == 1 {
			longer = 1
		}
		if !known || len(c.Nums) != form[longer] {
			out = append(out, answer{e: api.ErrSyntax, at: c.Pos})
			continue
		}
		if seen[c.Word]++; seen[c.Word] > 1 {
			out = append(out, answer{e: api.ErrTwice, at: c.Pos})
		}
		for i, f := range c.Nums {
			if f.N < 0 || f.N > lasts[c.Word][i] || len(c.Nums) == 2 && f.N < c.Nums[0].N {
				out = append(out, answer{e: api.ErrRange, at: f.Pos})
			}
		}
	}
	return out
}

// expected is what Check must say of lines.
func expected(l []api.Raw, size int) answer {
	if w := wrong(l, size); len(w) > 0 {
		return w[0]
	}
	var out []api.Entry
	for _, x := range l {
		out = append(out, meant(x))
	}
	return answer{entries: out}
}

// meant is what a right line means, each field by a look at all clauses.
func meant(x api.Raw) api.Entry {
	act := x.Port.N
	if x.Drop {
		act = 0
	}
	if x.Default {
		return api.Entry{Default: true, Action: act}
	}
	nums := func(word string, without ...int) []int {
		for _, c := range x.Clauses {
			if c.Word == word {
				var out []int
				for _, f := range c.Nums {
					out = append(out, f.N)
				}
				return out
			}
		}
		return without
	}
	address := func(l []int) (uint32, int) {
		l = append(l, 32)
		return uint32(l[0]*16777216 + l[1]*65536 + l[2]*256 + l[3]), l[4]
	}
	both := func(l []int) (int, int) {
		return l[0], append(l, l...)[1]
	}
	out := api.Entry{Prio: x.Prio.N, Action: act}
	out.Src, out.SrcBits = address(nums("src", 0, 0, 0, 0, 0))
	out.Dst, out.DstBits = address(nums("dst", 0, 0, 0, 0, 0))
	out.SLow, out.SHigh = both(nums("sport", 0, 65535))
	out.DLow, out.DHigh = both(nums("dport", 0, 65535))
	out.Proto = nums("proto", -1)[0]
	return out
}

// agrees holds what Check answers against the reckoning.
func agrees(t *testing.T, l []api.Raw, size int) {
	t.Helper()
	if got, want := ask(l, size), expected(l, size); !same(got, want) {
		t.Errorf("Check(%v, %d): %v, not %v", l, size, got, want)
	}
}

// applies reckons by digits.
func applies(x api.Entry, h api.Header) bool {
	row := ""
	for _, b := range h {
		row += fmt.Sprintf("%08b", b)
	}
	port := func(at int) (v int) {
		fmt.Sscanf(row[at:at+16], "%b", &v)
		return v
	}
	starts := func(at int, address uint32, bits int) bool {
		want := fmt.Sprintf("%032b", address)
		if bits < 0 {
			bits = 0
		}
		if bits > 32 {
			bits = 32
		}
		return row[at:at+bits] == want[:bits]
	}
	proto := x.Proto == -1 || fmt.Sprintf("%08b", x.Proto) == row[96:]
	return x.Default || starts(0, x.Src, x.SrcBits) && starts(32, x.Dst, x.DstBits) &&
		x.SLow <= port(64) && port(64) <= x.SHigh && x.DLow <= port(80) && port(80) <= x.DHigh && proto
}

// which puts the entries that apply in order: the first of them says what is done.
func which(l []api.Entry, h api.Header) int {
	var places []int
	for i, x := range l {
		if applies(x, h) {
			places = append(places, i)
		}
	}
	slices.SortStableFunc(places, func(a int, b int) int {
		x, y := l[a], l[b]
		switch {
		case x.Default && y.Default, !x.Default && !y.Default && x.Prio == y.Prio:
			return 0
		case x.Default != y.Default && y.Default, x.Default == y.Default && x.Prio > y.Prio:
			return -1
		}
		return 1
	})
	return append(places, -1)[0]
}

// printed writes entries as the chapter says.
func printed(l []api.Entry) string {
	out := ""
	for _, x := range l {
		line := "default"
		if !x.Default {
			line = fmt.Sprint(x.Prio)
			line += printedPrefix("src", x.Src, x.SrcBits) + printedPrefix("dst", x.Dst, x.DstBits)
			line += printedPorts("sport", x.SLow, x.SHigh) + printedPorts("dport", x.DLow, x.DHigh)
			if x.Proto != -1 {
				line += fmt.Sprintf(" proto %d", x.Proto)
			}
		}
		if x.Action == 0 {
			line += " -> drop\n"
		} else {
			line += fmt.Sprintf(" -> port %d\n", x.Action)
		}
		out += line
	}
	return out
}

func printedPrefix(word string, address uint32, bits int) string {
	if address == 0 && bits == 0 {
		return ""
	}
	return fmt.Sprintf(" %s %d.%d.%d.%d/%d", word, address/16777216, address/65536%256, address/256%256, address%256, bits)
}

func printedPorts(word string, low int, high int) string {
	switch {
	case low == 0 && high == 65535:
		return ""
	case low == high:
		return fmt.Sprintf(" %s %d", word, low)
	}
	return fmt.Sprintf(" %s %d-%d", word, low, high)
}

// deep is a copy of lines that shares nothing with them.
func deep(l []api.Raw) []api.Raw {
	var out []api.Raw
	for _, x := range l {
		var cs []api.Clause
		for _, c := range x.Clauses {
			c.Nums = append([]api.Figure(nil), c.Nums...)
			cs = append(cs, c)
		}
		x.Clauses = cs
		out = append(out, x)
	}
	return out
}

func unchanged(t *testing.T, got any, want any) {
	t.Helper()
	if !reflect.DeepEqual(got, want) {
		t.Errorf("%v, not %v", got, want)
	}
}

// noise is a row of numbers without a pattern, always the same one.
type noise uint64

func (n *noise) next() uint64 {
	*n ^= *n << 13
	*n ^= *n >> 7
	*n ^= *n << 17
	return uint64(*n)
}

func (n *noise) below(limit int) int {
	return int(n.next()>>32) % limit
}

func (n *noise) pick(l ...int) int {
	return l[n.below(len(l))]
}

// number is one from 0 to last, its ends more often than others.
func (n *noise) number(last int) int {
	return n.pick(0, 1, last, last-1, n.below(last+1))
}

// clause is a right one, with signs that say nothing there or do.
func (n *noise) clause(word string) api.Clause {
	c := api.Clause{Word: word, Slash: n.below(2) == 0, Dash: n.below(2) == 0}
	sign := c.Slash
	if strings.HasSuffix(word, "port") {
		sign = c.Dash
	}
	many := forms[word][0]
	if sign {
		many = forms[word][1]
	}
	for i := range many {
		c.Nums = append(c.Nums, api.Figure{N: n.number(lasts[word][i])})
	}
	if many == 2 && c.Nums[1].N < c.Nums[0].N {
		c.Nums[0], c.Nums[1] = c.Nums[1], c.Nums[0]
	}
	return c
}

// rule is a right line that isn't a Default one.
func (n *noise) rule() api.Raw {
	x := api.Raw{Prio: api.Figure{N: n.number(65535)}, Drop: n.below(3) == 0, Port: api.Figure{N: 1 + n.number(98)}}
	words := []string{"src", "dst", "sport", "dport", "proto"}
	for range n.below(6) {
		i := n.below(len(words))
		x.Clauses = append(x.Clauses, n.clause(words[i]))
		words = append(words[:i], words[i+1:]...)
	}
	return x
}

// lines are right ones: so many, with one Default line among them.
func (n *noise) lines(many int) []api.Raw {
	var out []api.Raw
	for range many - 1 {
		out = append(out, n.rule())
	}
	d := api.Raw{Default: true, Drop: n.below(2) == 0, Port: api.Figure{N: 1 + n.below(99)}}
	return slices.Insert(out, n.below(len(out)+1), d)
}

// place gives each line, clause and number a place of its own.
func place(l []api.Raw) []api.Raw {
	at := 0
	next := func() int {
		at += 3
		return at
	}
	for i := range l {
		l[i].Pos, l[i].Prio.Pos, l[i].Port.Pos = next(), next(), next()
		for j := range l[i].Clauses {
			c := &l[i].Clauses[j]
			c.Pos = next()
			for k := range c.Nums {
				c.Nums[k].Pos = next()
			}
		}
	}
	return l
}

// spoil makes something in lines another thing, which is mostly wrong.
func (n *noise) spoil(l []api.Raw) []api.Raw {
	i := n.below(len(l))
	x := &l[i]
	beyond := func() int { return n.pick(-1, 0, 1, 32, 33, 99, 100, 255, 256, 65535, 65536, -1<<63, 1<<63-1, 1<<32) }
	switch n.below(9) {
	case 0:
		x.Prio.N = beyond()
	case 1:
		x.Port.N = beyond()
	case 2:
		x.Default = !x.Default
	case 3:
		x.Drop = !x.Drop
	case 4:
		l = slices.Delete(l, i, i+1)
	case 5:
		l = slices.Insert(l, n.below(len(l)+1), deep(l[i:i+1])...)
	default:
		if len(x.Clauses) > 0 {
			x.Clauses = n.spoilClause(x.Clauses, beyond)
		}
	}
	return l
}

func (n *noise) spoilClause(l []api.Clause, beyond func() int) []api.Clause {
	c := &l[n.below(len(l))]
	switch n.below(6) {
	case 0:
		words := []string{"src", "dst", "sport", "dport", "proto", "port", "default", "drop", "x", "srcs"}
		c.Word = words[n.below(len(words))]
	case 1:
		c.Slash = !c.Slash
	case 2:
		c.Dash = !c.Dash
	case 3:
		c.Nums = append(c.Nums, api.Figure{N: beyond()})
	case 4:
		c.Nums = c.Nums[:n.below(len(c.Nums)+1)]
	case 5:
		for i := range c.Nums {
			if n.below(3) == 0 {
				c.Nums[i].N = beyond()
			}
		}
	}
	return l
}

// header is one whose fields are near the edges of some entry of the list, or anywhere.
func (n *noise) header(l []api.Entry) api.Header {
	var h api.Header
	for i := range h {
		h[i] = byte(n.next() >> 40)
	}
	if len(l) == 0 || n.below(4) == 0 {
		return h
	}
	x := l[n.below(len(l))]
	lay := func(at int, size int, v int) {
		for i := range size {
			h[at+i] = byte(v >> (8 * (size - 1 - i)))
		}
	}
	turned := func(v uint32) int {
		if n.below(3) == 0 {
			v ^= 1 << n.below(32)
		}
		return int(v)
	}
	lay(0, 4, turned(x.Src))
	lay(4, 4, turned(x.Dst))
	lay(8, 2, n.pick(x.SLow-1, x.SLow, x.SHigh, x.SHigh+1, x.SLow, x.SHigh))
	lay(10, 2, n.pick(x.DLow-1, x.DLow, x.DHigh, x.DHigh+1, x.DLow, x.DHigh))
	lay(12, 1, n.pick(x.Proto, x.Proto, x.Proto+1))
	return h
}

// entry is any, right or not.
func (n *noise) entry() api.Entry {
	bits := func() int { return n.pick(-1<<63, -1, 0, 0, 0, 1, 2, 8, 31, 32, 33, 1<<63-1) }
	low := func() int { return n.pick(-1<<63, -1, 0, 0, 0, 1, 5, 80, 65535, 65536) }
	high := func() int { return n.pick(-1, 0, 5, 80, 65534, 65535, 65535, 65535, 65536, 1<<63-1) }
	return api.Entry{
		Default: n.below(6) == 0,
		Prio:    n.pick(-1<<63, -1, 0, 1, 2, 2, 9, 65535, 1<<63-1),
		Src:     uint32(n.pick(0, 0, 1, 10<<24, 10<<24|1, 1<<32-1)),
		SrcBits: bits(),
		Dst:     uint32(n.pick(0, 0, 1, 10<<24, 1<<31, 1<<32-1)),
		DstBits: bits(),
		SLow:    low(),
		SHigh:   high(),
		DLow:    low(),
		DHigh:   high(),
		Proto:   n.pick(-1, -1, -1, 0, 6, 255, 256, -2, -1<<63, 1<<63-1),
		Action:  n.pick(-1, 0, 1, 2, 99, 100, 1<<63-1),
	}
}

func (n *noise) entries(many int) []api.Entry {
	var out []api.Entry
	for range many {
		out = append(out, n.entry())
	}
	return out
}
