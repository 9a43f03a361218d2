package msg

import (
	"math"
	"testing"

	"milepost/api"
	"milepost/cube"
	"milepost/head"
)

// Each kind with its own fields alone: all of them zero, all of them set, one at a time, all but one.
func TestP161OwnFields(t *testing.T) {
	for kind := 1; kind <= kinds; kind++ {
		empty, all := api.Msg{Kind: kind}, plain(kind)
		for _, m := range []api.Msg{empty, all} {
			may(t, m, written(m))
		}
		for _, name := range numbersOf(kind) {
			one := with(empty, name, numberIn(all, name))
			may(t, one, written(one))
			rest := with(all, name, 0)
			may(t, rest, written(rest))
		}
		if has(kind, "Cube") {
			one, rest := with(empty, "Cube", all.Cube), with(all, "Cube", api.Cube{})
			may(t, one, written(one))
			may(t, rest, written(rest))
		}
		if has(kind, "Head") {
			one, rest := with(empty, "Head", all.Head), with(all, "Head", api.Header{})
			may(t, one, written(one))
			may(t, rest, written(rest))
		}
	}
}

func TestP161ZeroMessage(t *testing.T) {
	mayNot(t, api.Msg{})
}

// A kind that is none has no fields either, whatever the message has.
func TestP161NoKind(t *testing.T) {
	for _, kind := range noKinds() {
		mayNot(t, api.Msg{Kind: kind})
		mayNot(t, api.Msg{Kind: kind, Inc: 1, Epoch: 2, At: 3})
		for k := 1; k <= kinds; k++ {
			mayNot(t, with(plain(k), "Kind", kind))
		}
	}
}

// A field that isn't the kind's own must be zero: right or not, a number within the bounds or not.
func TestP161OtherNumbers(t *testing.T) {
	seen := 0
	for kind := 1; kind <= kinds; kind++ {
		for _, name := range others(kind) {
			if name == "Cube" || name == "Head" {
				continue
			}
			seen++
			for _, n := range append(beyond(), 1, 2, 99, 255, 256, 1<<32, most) {
				mayNot(t, with(api.Msg{Kind: kind}, name, n))
				mayNot(t, with(plain(kind), name, n))
			}
		}
	}
	// Thirteen numbers each, less those of the chapter's table.
	if seen != 13*7-(7+7+4+3+5+3+4) {
		t.Error("other fields that are numbers:", seen)
	}
}

func TestP161OtherCube(t *testing.T) {
	for kind := 1; kind <= kinds; kind++ {
		if has(kind, "Cube") {
			continue
		}
		for i := range api.HeadBits {
			mask := api.Header{}
			mask[i/8] = 1 << (i % 8)
			for _, c := range []api.Cube{{Mask: mask}, {Value: mask}, {Value: mask, Mask: mask}} {
				mayNot(t, with(api.Msg{Kind: kind}, "Cube", c))
				mayNot(t, with(plain(kind), "Cube", c))
			}
		}
		mayNot(t, with(plain(kind), "Cube", cube.Of(api.Header{})))
	}
}

func TestP161OtherHead(t *testing.T) {
	for kind := 1; kind <= kinds; kind++ {
		if has(kind, "Head") {
			continue
		}
		for i := range api.HeadBits {
			h := api.Header{}
			h[i/8] = 1 << (i % 8)
			mayNot(t, with(api.Msg{Kind: kind}, "Head", h))
			mayNot(t, with(plain(kind), "Head", h))
		}
		mayNot(t, with(plain(kind), "Head", head.Make(1, 2, 3, 4, 5)))
	}
}

// Each number of each kind at its two ends, and beyond both.
func TestP161NumbersEnds(t *testing.T) {
	if api.MaxNumber != most {
		t.Fatal(api.MaxNumber)
	}
	for kind := 1; kind <= kinds; kind++ {
		for _, name := range numbersOf(kind) {
			for _, m := range []api.Msg{{Kind: kind}, plain(kind)} {
				for _, n := range []int{0, 1, 255, 256, math.MaxInt32, 1 << 32, 1 << 40, 1<<47 - 1, 1 << 47, most - 1, most} {
					x := with(m, name, n)
					may(t, x, written(x))
				}
				for _, n := range beyond() {
					mayNot(t, with(m, name, n))
				}
			}
		}
	}
}

// All numbers at once at an end; and all but one.
func TestP161AllNumbers(t *testing.T) {
	for kind := 1; kind <= kinds; kind++ {
		m := api.Msg{Kind: kind}
		for _, name := range numbersOf(kind) {
			m = with(m, name, most)
		}
		may(t, m, written(m))
		for _, name := range numbersOf(kind) {
			mayNot(t, with(m, name, most+1))
			mayNot(t, with(m, name, -1))
		}
	}
}

// Actions and switches beyond their own ranges are numbers as all others: messages have one bound alone.
func TestP161NoOtherBound(t *testing.T) {
	for _, m := range []api.Msg{
		{Kind: api.MsgMod, Action: api.MaxPort + 1},
		{Kind: api.MsgInstall, Action: most},
		{Kind: api.MsgPart, One: api.MaxSwitches + 1, Two: api.MaxSwitches + 1},
		{Kind: api.MsgPart, At: 5, Of: 4, Epoch: 1, Floor: 2},
		{Kind: api.MsgLead, Sent: api.MaxTicks + 1, Use: 1, Floor: 2},
	} {
		may(t, m, written(m))
	}
}

func TestP161Cubes(t *testing.T) {
	ones := api.Header{255, 255, 255, 255, 255, 255, 255, 255, 255, 255, 255, 255, 255}
	for _, kind := range []int{api.MsgPart, api.MsgMod, api.MsgInstall} {
		x := noise(161)
		rights := []api.Cube{cube.All(), cube.Of(api.Header{}), cube.Of(ones), {Mask: ones}}
		wrongs := []api.Cube{{Value: ones}, {Value: ones, Mask: api.Header{0: 255}}, {Value: api.Header{128}, Mask: api.Header{127}}}
		for range 20 {
			rights = append(rights, x.cube())
		}
		for i := range api.HeadBits {
			bit := api.Header{}
			bit[i/8] = 1 << (i % 8)
			rest := ones
			rest[i/8] -= bit[i/8]
			rights = append(rights, api.Cube{Value: bit, Mask: bit}, api.Cube{Mask: bit}, api.Cube{Value: rest, Mask: rest}, api.Cube{Value: rest, Mask: ones})
			wrongs = append(wrongs, api.Cube{Value: bit}, api.Cube{Value: bit, Mask: rest}, api.Cube{Value: ones, Mask: rest})
		}
		for _, c := range rights {
			for _, m := range []api.Msg{{Kind: kind}, plain(kind)} {
				m.Cube = c
				may(t, m, written(m))
			}
		}
		for _, c := range wrongs {
			for _, m := range []api.Msg{{Kind: kind}, plain(kind)} {
				m.Cube = c
				mayNot(t, m)
			}
		}
	}
}

func TestP161Heads(t *testing.T) {
	x := noise(162)
	for i := range 100 {
		m := api.Msg{Kind: api.MsgRedirect, Seq: i, Head: x.header()}
		may(t, m, written(m))
	}
}

// Of a message that may be any field is changed, and it is reckoned field by field whether it still may be.
func TestP161Reckoned(t *testing.T) {
	x := noise(163)
	yes, no := 0, 0
	for i := range 20000 {
		m := x.message(1 + i%kinds)
		if x.next()%3 == 0 {
			m.Kind = int(x.next()%10) - 1
		}
		for _, name := range others(0) {
			switch {
			case x.next()%24 != 0:
			case name == "Cube":
				m.Cube = api.Cube{Value: x.header(), Mask: x.header()}
			case name == "Head":
				m.Head = x.header()
			default:
				m = with(m, name, x.number()-int(x.next()%3)+int(x.next()%2)*most)
			}
		}
		if mayBe(m) {
			yes++
			may(t, m, written(m))
		} else {
			no++
			mayNot(t, m)
		}
	}
	if yes < 4000 || no < 4000 {
		t.Error("the messages are too much of one kind:", yes, no)
	}
}
