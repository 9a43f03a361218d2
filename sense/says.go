package sense

import (
	"milepost/api"
	"milepost/head"
)

// Applies: does an entry apply to a header?
func Applies(x api.Entry, h api.Header) bool {
	if x.Default {
		return true
	}
	return begins(field(h, api.Src), x.Src, x.SrcBits) &&
		begins(field(h, api.Dst), x.Dst, x.DstBits) &&
		within(field(h, api.Sport), x.SLow, x.SHigh) &&
		within(field(h, api.Dport), x.DLow, x.DHigh) &&
		(x.Proto == anyProto || x.Proto == int(field(h, api.Proto)))
}

// Which: the entry by which a list says something of a header.
func Which(l []api.Entry, h api.Header) int {
	rule, rest := -1, -1
	for i, x := range l {
		switch {
		case x.Default:
			if rest < 0 {
				rest = i
			}
		case Applies(x, h):
			// Of one Prio the first stays.
			if rule < 0 || x.Prio > l[rule].Prio {
				rule = i
			}
		}
	}
	if rule < 0 {
		return rest
	}
	return rule
}

// Says: what a list says of a header.
func Says(l []api.Entry, h api.Header) (int, bool) {
	i := Which(l, h)
	if i < 0 {
		return 0, false
	}
	return l[i].Action, true
}

// field is a field's number. Those that are asked for here are there, so there is no error to tell.
func field(h api.Header, f int) uint32 {
	v, _ := head.Field(h, f)
	return v
}

// begins is whether the first so many bits of two addresses are the same.
func begins(a uint32, b uint32, bits int) bool {
	behind := addressBits - min(max(bits, 0), addressBits)
	return (a^b)>>behind == 0
}

func within(v uint32, low int, high int) bool {
	return low <= int(v) && int(v) <= high
}
