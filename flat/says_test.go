package flat

import (
	"fmt"
	"slices"
	"strings"
	"testing"

	"milepost/api"
	"milepost/head"
	"milepost/sense"
)

// marks are, of each field, the numbers at which something begins: between two of them nothing changes.
type marks [5][]uint64

func (m *marks) from(f int, low uint64, high uint64) {
	m[f] = append(m[f], low, high+1)
}

func (m *marks) prefix(f int, v uint32, many int) {
	size := uint64(1) << (32 - many)
	low := uint64(v) / size * size
	m.from(f, low, low+size-1)
}

// entry takes in where an entry without faults begins and ends.
func (m *marks) entry(x api.Entry) {
	if x.Default {
		return
	}
	m.prefix(api.Src, x.Src, x.SrcBits)
	m.prefix(api.Dst, x.Dst, x.DstBits)
	m.from(api.Sport, uint64(x.SLow), uint64(x.SHigh))
	m.from(api.Dport, uint64(x.DLow), uint64(x.DHigh))
	if x.Proto >= 0 {
		m.from(api.Proto, uint64(x.Proto), uint64(x.Proto))
	}
}

// rule takes in where a rule begins and ends: in each field its free bits stand behind those that are fixed.
func (m *marks) rule(t *testing.T, x api.Rule) {
	t.Helper()
	s := letters(x.Cube)
	for f, at := range [][2]int{{0, 32}, {32, 64}, {64, 80}, {80, 96}, {96, 104}} {
		field := s[at[0]:at[1]]
		if strings.Contains(strings.TrimRight(field, "*"), "*") {
			t.Fatalf("%s: no range in field %d", s, f)
		}
		m.from(f, number(strings.ReplaceAll(field, "*", "0")), number(strings.ReplaceAll(field, "*", "1")))
	}
}

func number(s string) uint64 {
	var v uint64
	fmt.Sscanf(s, "%b", &v)
	return v
}

// values are a field's numbers of which each stands for all up to the next one.
func (m *marks) values(f int) []uint64 {
	last := uint64(1)<<[]int{32, 32, 16, 16, 8}[f] - 1
	out := []uint64{0}
	for _, v := range m[f] {
		if v <= last {
			out = append(out, v)
		}
	}
	slices.Sort(out)
	return slices.Compact(out)
}

// agrees holds a table against its list at a header.
func agrees(t *testing.T, l []api.Entry, table []api.Rule, h api.Header) {
	t.Helper()
	want, said := sense.Says(l, h)
	x, ok := Look(table, h)
	if ok != said || x.Action != want {
		t.Fatalf("%s: %v, %v, not %d, %v; of\n%s", head.Text(h), x, ok, want, said, sense.Print(l))
	}
}

// agreesAll holds a table against its list at all headers: at one of each block in which neither of them changes.
func agreesAll(t *testing.T, l []api.Entry, table []api.Rule) int {
	t.Helper()
	var m marks
	for _, x := range l {
		m.entry(x)
	}
	for _, x := range table {
		m.rule(t, x)
	}
	blocks := 0
	for _, a := range m.values(0) {
		for _, b := range m.values(1) {
			for _, c := range m.values(2) {
				for _, d := range m.values(3) {
					for _, p := range m.values(4) {
						agrees(t, l, table, head.Make(uint32(a), uint32(b), uint16(c), uint16(d), uint8(p)))
						blocks++
					}
				}
			}
		}
	}
	return blocks
}

// policy reads a text that has no faults.
func policy(t *testing.T, s string) ([]api.Entry, []api.Rule) {
	t.Helper()
	l, e, at := sense.Read(s)
	if e != api.OK {
		t.Fatalf("%s: %d, %d", s, e, at)
	}
	table, e := Compile(l)
	if e != api.OK {
		t.Fatalf("%s: %d", s, e)
	}
	return l, table
}

func TestP84AllHeaders(t *testing.T) {
	for _, s := range []string{
		"default -> drop",
		"default -> port 99",
		"2 dport 1-2 -> port 1\n5 dport 1 -> port 2\ndefault -> drop",
		"9 dport 80 -> port 1\n9 src 10.0.0.0/8 -> port 2\ndefault -> drop",
		"default -> port 3\n1 dport 1-65534 -> drop\n1 sport 80-443 -> port 4",
		"0 sport 1-6 dport 7-9 -> port 1\n65535 sport 3-4 dport 8 proto 6 -> drop\ndefault -> port 2",
		"3 src 10.1.2.3/31 dst 0.0.0.0/0 -> port 1\n3 src 10.0.0.0/7 dst 255.255.255.255 -> port 2\n4 dst 128.0.0.0/1 proto 255 -> port 3\ndefault -> drop",
		"1 proto 0 -> port 1\n1 proto 255 -> port 2\n2 sport 65535 -> port 3\n2 dport 0 -> port 4\ndefault -> drop",
		"1 -> port 1\n1 -> port 2\n2 src 0.0.0.0/1 -> port 3\n2 src 128.0.0.0/1 -> port 4\ndefault -> drop",
	} {
		l, table := policy(t, s)
		agreesAll(t, l, table)
	}
}

// line is one of a policy, with clauses that often lie within those of others.
func (n *noise) line() string {
	s := fmt.Sprint(n.pick(0, 1, 1, 2, 65535))
	if n.below(3) == 0 {
		s += fmt.Sprintf(" src %d.0.0.%d/%d", n.pick(10, 11), n.pick(0, 1, 255), n.pick(0, 7, 8, 31, 32))
	}
	if n.below(3) == 0 {
		s += fmt.Sprintf(" dst %d.2.3.4/%d", n.pick(0, 128, 255), n.pick(0, 1, 9, 32))
	}
	for _, word := range []string{"sport", "dport"} {
		low := n.pick(0, 1, 5, 80, 81, 443, 1024, 65535)
		if n.below(3) == 0 {
			s += fmt.Sprintf(" %s %d-%d", word, low, max(low, n.pick(2, 6, 80, 90, 1023, 1500, 65535)))
		}
	}
	if n.below(4) == 0 {
		s += fmt.Sprintf(" proto %d", n.pick(0, 6, 17, 255))
	}
	if n.below(4) == 0 {
		return s + " -> drop"
	}
	return s + fmt.Sprintf(" -> port %d", 1+n.below(99))
}

// text is a policy of so many lines and a Default one among them.
func (n *noise) text(many int) string {
	var out []string
	for range many {
		out = append(out, n.line())
	}
	out = slices.Insert(out, n.below(len(out)+1), "default -> port "+fmt.Sprint(1+n.below(99)))
	return strings.Join(out, "\n")
}

func TestP84AllHeadersModel(t *testing.T) {
	n := noise(84)
	blocks := 0
	for range 300 {
		l, e, _ := sense.Read(n.text(1 + n.below(6)))
		if e != api.OK {
			t.Fatal(e)
		}
		if table, e := Compile(l); e == api.OK && len(table) <= 60 {
			blocks += agreesAll(t, l, table)
		}
	}
	if blocks < 100000 {
		t.Error("too few blocks:", blocks)
	}
}

// Of greater policies headers are taken at the edges of all prefixes and ranges, and one beyond them.
func TestP84Edges(t *testing.T) {
	n := noise(841)
	tables, byRule := 0, 0
	for range 250 {
		l, e, _ := sense.Read(n.text(1 + n.below(20)))
		if e != api.OK {
			t.Fatal(e)
		}
		table, e := Compile(l)
		if e != api.OK {
			continue
		}
		tables++
		var m marks
		for _, x := range l {
			m.entry(x)
		}
		for range 600 {
			var v [5]uint64
			for f := range v {
				all := m.values(f)
				v[f] = all[n.below(len(all))] - uint64(n.below(2))
			}
			h := head.Make(uint32(v[0]), uint32(v[1]), uint16(v[2]), uint16(v[3]), uint8(v[4]))
			agrees(t, l, table, h)
			if !l[sense.Which(l, h)].Default {
				byRule++
			}
		}
	}
	if tables < 100 || byRule < 10000 {
		t.Error("too little was held against each other:", tables, byRule)
	}
}

// Trimmed or not, a list's rules say the same.
func TestP84Untrimmed(t *testing.T) {
	n := noise(842)
	blocks := 0
	for range 60 {
		l, _, _ := sense.Read(n.text(1 + n.below(4)))
		if all, e := Expand(l, api.MaxExpand); e == api.OK && len(all) <= 60 {
			blocks += agreesAll(t, l, all)
		}
	}
	if blocks < 1000 {
		t.Error("too few blocks:", blocks)
	}
}
