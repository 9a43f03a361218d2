package sense

import (
	"slices"
	"strings"
	"testing"

	"milepost/api"
	"milepost/head"
)

func TestP74Lines(t *testing.T) {
	for _, x := range []struct {
		entry api.Entry
		s     string
	}{
		{plain(5, 7), "5 -> port 7"},
		{plain(5, 0), "5 -> drop"},
		{plain(0, 1), "0 -> port 1"},
		{plain(-5, -7), "-5 -> port -7"},
		{plain(least, greatest), "-9223372036854775808 -> port 9223372036854775807"},
		{plain(greatest, least), "9223372036854775807 -> port -9223372036854775808"},
		{api.Entry{}, "0 sport 0 dport 0 proto 0 -> drop"},
		{api.Entry{Default: true}, "default -> drop"},
		{api.Entry{Default: true, Action: 7}, "default -> port 7"},
		{api.Entry{Default: true, Action: -7}, "default -> port -7"},
		{api.Entry{Default: true, Prio: 5, Src: 1, SrcBits: 2, Dst: 3, DstBits: 4, SLow: 5, SHigh: 6, DLow: 7, DHigh: 8, Proto: 9, Action: 10}, "default -> port 10"},
		{one(func(x *api.Entry) { x.Src, x.SrcBits = 0x0a000000, 8 }), "5 src 10.0.0.0/8 -> port 7"},
		{one(func(x *api.Entry) { x.Src, x.SrcBits = 0xfffefdfc, 32 }), "5 src 255.254.253.252/32 -> port 7"},
		{one(func(x *api.Entry) { x.Src, x.SrcBits = 0, 1 }), "5 src 0.0.0.0/1 -> port 7"},
		{one(func(x *api.Entry) { x.Src, x.SrcBits = 0, 32 }), "5 src 0.0.0.0/32 -> port 7"},
		{one(func(x *api.Entry) { x.Src, x.SrcBits = 1, 0 }), "5 src 0.0.0.1/0 -> port 7"},
		{one(func(x *api.Entry) { x.Src, x.SrcBits = 256, 0 }), "5 src 0.0.1.0/0 -> port 7"},
		{one(func(x *api.Entry) { x.Src, x.SrcBits = 0, -1 }), "5 src 0.0.0.0/-1 -> port 7"},
		{one(func(x *api.Entry) { x.Src, x.SrcBits = 0, 33 }), "5 src 0.0.0.0/33 -> port 7"},
		{one(func(x *api.Entry) { x.Dst, x.DstBits = 0x01020304, 31 }), "5 dst 1.2.3.4/31 -> port 7"},
		{one(func(x *api.Entry) { x.Dst, x.DstBits = 0, 1 }), "5 dst 0.0.0.0/1 -> port 7"},
		{one(func(x *api.Entry) { x.Dst, x.DstBits = 1<<31, 0 }), "5 dst 128.0.0.0/0 -> port 7"},
		{one(func(x *api.Entry) { x.Dst, x.DstBits = 1<<16, least }), "5 dst 0.1.0.0/-9223372036854775808 -> port 7"},
		{one(func(x *api.Entry) { x.SLow, x.SHigh = 0, 0 }), "5 sport 0 -> port 7"},
		{one(func(x *api.Entry) { x.SLow, x.SHigh = 80, 80 }), "5 sport 80 -> port 7"},
		{one(func(x *api.Entry) { x.SLow, x.SHigh = 65535, 65535 }), "5 sport 65535 -> port 7"},
		{one(func(x *api.Entry) { x.SLow, x.SHigh = 0, 65534 }), "5 sport 0-65534 -> port 7"},
		{one(func(x *api.Entry) { x.SLow, x.SHigh = 1, 65535 }), "5 sport 1-65535 -> port 7"},
		{one(func(x *api.Entry) { x.SLow, x.SHigh = 0, 65536 }), "5 sport 0-65536 -> port 7"},
		{one(func(x *api.Entry) { x.SLow, x.SHigh = -1, 65535 }), "5 sport -1-65535 -> port 7"},
		{one(func(x *api.Entry) { x.SLow, x.SHigh = 65535, 0 }), "5 sport 65535-0 -> port 7"},
		{one(func(x *api.Entry) { x.SLow, x.SHigh = -5, -3 }), "5 sport -5--3 -> port 7"},
		{one(func(x *api.Entry) { x.SLow, x.SHigh = -5, -5 }), "5 sport -5 -> port 7"},
		{one(func(x *api.Entry) { x.DLow, x.DHigh = 0, 0 }), "5 dport 0 -> port 7"},
		{one(func(x *api.Entry) { x.DLow, x.DHigh = 443, 443 }), "5 dport 443 -> port 7"},
		{one(func(x *api.Entry) { x.DLow, x.DHigh = 9, 8 }), "5 dport 9-8 -> port 7"},
		{one(func(x *api.Entry) { x.DLow, x.DHigh = 1, 65535 }), "5 dport 1-65535 -> port 7"},
		{one(func(x *api.Entry) { x.DLow, x.DHigh = 0, 65534 }), "5 dport 0-65534 -> port 7"},
		{one(func(x *api.Entry) { x.Proto = 0 }), "5 proto 0 -> port 7"},
		{one(func(x *api.Entry) { x.Proto = 255 }), "5 proto 255 -> port 7"},
		{one(func(x *api.Entry) { x.Proto = 256 }), "5 proto 256 -> port 7"},
		{one(func(x *api.Entry) { x.Proto = -2 }), "5 proto -2 -> port 7"},
		{api.Entry{Prio: 5, Src: 0x01020304, SrcBits: 5, Dst: 0x06070809, DstBits: 10, SLow: 11, SHigh: 12, DLow: 13, DHigh: 14, Proto: 15, Action: 16},
			"5 src 1.2.3.4/5 dst 6.7.8.9/10 sport 11-12 dport 13-14 proto 15 -> port 16"},
	} {
		l := []api.Entry{x.entry}
		if s := Print(l); s != x.s+"\n" || s != printed(l) {
			t.Errorf("%v: %q, not %q", x.entry, s, x.s)
		}
	}
}

func TestP74Lists(t *testing.T) {
	if s := Print(nil) + Print([]api.Entry{}); s != "" {
		t.Errorf("%q", s)
	}
	l := []api.Entry{{Default: true, Action: 3}, plain(9, 0), {}, {Default: true}, plain(1, 1)}
	before := slices.Clone(l)
	if s := Print(l); s != "default -> port 3\n9 -> drop\n0 sport 0 dport 0 proto 0 -> drop\ndefault -> drop\n1 -> port 1\n" {
		t.Errorf("%q", s)
	}
	if !slices.Equal(l, before) {
		t.Error(l)
	}
	// More lines than a policy may have, in the list's order.
	many := make([]api.Entry, 100000)
	if s := Print(many); s != strings.Repeat("0 sport 0 dport 0 proto 0 -> drop\n", len(many)) {
		t.Error(len(s))
	}
	n := noise(74)
	for range 5000 {
		l := n.entries(n.below(6))
		if s, want := Print(l), printed(l); s != want {
			t.Fatalf("%v: %q, not %q", l, s, want)
		}
	}
}

func TestP75Again(t *testing.T) {
	n := noise(75)
	read, long := 0, 0
	for range 300 {
		raws := n.lines(1 + n.below(64))
		// Lines with all clauses, so that some texts are too long.
		for i := range raws {
			for len(raws) > 50 && !raws[i].Default && len(raws[i].Clauses) < 5 {
				raws[i] = n.rule()
			}
		}
		l, e, at := Check(raws, 0)
		if e != api.OK {
			t.Fatal(raws, e, at)
		}
		s := Print(l)
		if len(s) > 4096 {
			fails(t, s, api.ErrLong, 4096)
			long++
			continue
		}
		m, e, at := Read(s)
		if e != api.OK || at != 0 || !slices.Equal(l, m) {
			t.Fatalf("%q: %v, %d, %d, not %v", s, m, e, at, l)
		}
		if again := Print(m); again != s {
			t.Fatalf("%q, not %q", again, s)
		}
		for range 8 {
			h := n.header(m)
			told(t, m, h, which(m, h))
			if act, ok := Says(m, h); !ok || act < 0 || act > 99 {
				t.Fatalf("%q says nothing of %s: %d, %t", s, head.Text(h), act, ok)
			}
		}
		read++
	}
	if read < 200 || long < 20 {
		t.Error(read, long)
	}
}

func TestP75Texts(t *testing.T) {
	for s, want := range map[string]string{
		"default->drop": "default -> drop\n",
		"1src 1.2.3.4/0 sport 0-65535 dport 5-5->port 1\ndefault->port 2":            "1 src 1.2.3.4/0 dport 5 -> port 1\ndefault -> port 2\n",
		"1 src 0.0.0.0/0 dst 0.0.0.0 -> drop\ndefault -> drop":                       "1 dst 0.0.0.0/32 -> drop\ndefault -> drop\n",
		"default -> drop\n7 proto 6 dport 1 sport 2 dst 3.3.3.3 src 4.4.4.4 -> drop": "default -> drop\n7 src 4.4.4.4/32 dst 3.3.3.3/32 sport 2 dport 1 proto 6 -> drop\n",
		"# x\n\n 5 dport 0-65534 -> port 99 # y\n\ndefault -> port 1":                "5 dport 0-65534 -> port 99\ndefault -> port 1\n",
	} {
		l, e, _ := Read(s)
		text := Print(l)
		m, f, _ := Read(text)
		if e != api.OK || f != api.OK || text != want || !slices.Equal(l, m) {
			t.Errorf("%q: %d; %q, %d: %v, not %v", s, e, text, f, m, l)
		}
	}
	// A text without blanks grows when it is printed: then it can be too long.
	s := strings.Repeat("11src1.1.1.1dst1.1.1.1sport1-1dport1-2proto1->port1\n", 63) + "default->drop"
	l, e, _ := Read(s)
	if e != api.OK || len(l) != 64 {
		t.Fatal(len(l), e)
	}
	fails(t, Print(l), api.ErrLong, 4096)
}
