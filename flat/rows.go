package flat

import (
	"cmp"
	"slices"

	"milepost/api"
	"milepost/cube"
	"milepost/span"
)

const (
	addressBits = 32
	// anyProto stands for all protocols.
	anyProto = -1
)

// rows are a list's entries in the order in which they count: the Default ones behind all others, whatever their Prio is.
func rows(l []api.Entry) []api.Entry {
	var out, defaults []api.Entry
	for _, x := range l {
		if x.Default {
			defaults = append(defaults, x)
		} else {
			out = append(out, x)
		}
	}
	slices.SortStableFunc(out, func(a api.Entry, b api.Entry) int {
		return cmp.Compare(b.Prio, a.Prio)
	})
	return append(out, defaults...)
}

// cubes are those of an entry. A range that can't be has no cubes, so nothing is left to tell by its error.
func cubes(x api.Entry) []api.Cube {
	if x.Default {
		return []api.Cube{cube.All()}
	}
	sports, _ := span.Ports(api.Sport, x.SLow, x.SHigh)
	dports, _ := span.Ports(api.Dport, x.DLow, x.DHigh)
	return meets(prefix(api.Src, x.Src, x.SrcBits), prefix(api.Dst, x.Dst, x.DstBits), protos(x.Proto), sports, dports)
}

// meets are what one cube each of some lists have together, the first list's outermost. Of one entry they are 30 times 30 at most, so that Cross never finds too many.
func meets(lists ...[]api.Cube) []api.Cube {
	out := []api.Cube{cube.All()}
	for _, l := range lists {
		out, _ = span.Cross(out, l, api.MaxExpand)
	}
	return out
}

func prefix(f int, addr uint32, bits int) []api.Cube {
	c, _ := span.Prefix(f, addr, min(max(bits, 0), addressBits))
	return []api.Cube{c}
}

// protos is the cube of a protocol, or of all; none of one that can't be.
func protos(n int) []api.Cube {
	if n == anyProto {
		return []api.Cube{cube.All()}
	}
	c, e := span.Proto(n)
	if e != api.OK {
		return nil
	}
	return []api.Cube{c}
}
