package sense

import (
	"slices"

	"milepost/api"
)

// fault is an error and its place; of what is right it is zero.
type fault struct {
	e   api.Errno
	pos int
}

// first is the first of several that is a fault.
func first(l ...fault) fault {
	for _, f := range l {
		if f.e != api.OK {
			return f
		}
	}
	return fault{}
}

func when(wrong bool, e api.Errno, pos int) fault {
	if wrong {
		return fault{e, pos}
	}
	return fault{}
}

// outside is the fault of a number that isn't from low to high.
func outside(f api.Figure, low int, high int) fault {
	return when(f.N < low || f.N > high, api.ErrRange, f.Pos)
}

// ruleFault is what is wrong first with a line's Prio and clauses. A Default line means nothing by them.
func ruleFault(x api.Raw) fault {
	if x.Default {
		return fault{}
	}
	f := outside(x.Prio, 0, lastPrio)
	// Given up at the first fault: the sixth clause at the latest has one, so a row of any length is soon over.
	for i := 0; i < len(x.Clauses) && f.e == api.OK; i++ {
		f = clauseFault(x.Clauses[i], x.Clauses[:i])
	}
	return f
}

func clauseFault(c api.Clause, ahead []api.Clause) fault {
	stands := slices.ContainsFunc(ahead, func(d api.Clause) bool { return d.Word == c.Word })
	return first(
		when(len(c.Nums) != many(c), api.ErrSyntax, c.Pos),
		when(stands, api.ErrTwice, c.Pos),
		numbersFault(c),
	)
}

// many is how many numbers a clause must have; of a word that is none of the five no list has so many.
func many(c api.Clause) int {
	switch c.Word {
	case "src", "dst":
		if c.Slash {
			return addressNums + 1
		}
		return addressNums
	case "sport", "dport":
		if c.Dash {
			return 2
		}
		return 1
	case "proto":
		return 1
	}
	return -1
}

func numbersFault(c api.Clause) fault {
	for i, n := range c.Nums {
		low, high := bounds(c, i)
		if f := outside(n, low, high); f.e != api.OK {
			return f
		}
	}
	return fault{}
}

// bounds is from where to where a clause's number may be.
func bounds(c api.Clause, i int) (int, int) {
	switch c.Word {
	case "proto":
		return 0, lastProto
	case "sport", "dport":
		if i > 0 {
			// The first one was held against its own bounds, so this isn't below 0 either.
			return c.Nums[0].N, lastPort
		}
		return 0, lastPort
	}
	if i == addressNums {
		return 0, addressBits
	}
	return 0, lastByte
}

func actionFault(x api.Raw) fault {
	if x.Drop {
		return fault{}
	}
	return outside(x.Port, 1, api.MaxPort)
}
