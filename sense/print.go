package sense

import (
	"strings"

	"milepost/api"
	"milepost/parse"
)

// Print: entries as text.
func Print(l []api.Entry) string {
	var b strings.Builder
	for _, x := range l {
		b.WriteString(parse.Print([]api.Raw{written(x)}))
	}
	return b.String()
}

// written is a line that means an entry. Of a Default one Action alone counts: it has no clauses, whatever its other fields are.
func written(x api.Entry) api.Raw {
	out := api.Raw{Default: x.Default, Drop: x.Action == 0, Port: api.Figure{N: x.Action}}
	if x.Default {
		return out
	}
	out.Prio.N = x.Prio
	if x.Src != 0 || x.SrcBits != 0 {
		out.Clauses = append(out.Clauses, prefixClause("src", x.Src, x.SrcBits))
	}
	if x.Dst != 0 || x.DstBits != 0 {
		out.Clauses = append(out.Clauses, prefixClause("dst", x.Dst, x.DstBits))
	}
	if x.SLow != 0 || x.SHigh != lastPort {
		out.Clauses = append(out.Clauses, portsClause("sport", x.SLow, x.SHigh))
	}
	if x.DLow != 0 || x.DHigh != lastPort {
		out.Clauses = append(out.Clauses, portsClause("dport", x.DLow, x.DHigh))
	}
	if x.Proto != anyProto {
		out.Clauses = append(out.Clauses, api.Clause{Word: "proto", Nums: figures(x.Proto)})
	}
	return out
}

func prefixClause(word string, address uint32, bits int) api.Clause {
	nums := figures(int(address>>24), int(address>>16&lastByte), int(address>>8&lastByte), int(address&lastByte), bits)
	return api.Clause{Word: word, Nums: nums, Slash: true}
}

func portsClause(word string, low int, high int) api.Clause {
	if low == high {
		return api.Clause{Word: word, Nums: figures(low)}
	}
	return api.Clause{Word: word, Nums: figures(low, high), Dash: true}
}

// figures are numbers that stand nowhere yet.
func figures(l ...int) []api.Figure {
	var out []api.Figure
	for _, n := range l {
		out = append(out, api.Figure{N: n})
	}
	return out
}
