package score

import (
	"math"
	"slices"
	"testing"
)

func TestP102CostWrittenOut(t *testing.T) {
	for _, c := range []struct {
		load   int
		weight float64
		want   float64
	}{
		{2, 0.5, 3}, {2, inf, inf}, {7, nan, 7}, {7, -nan, 7}, {7, -3, 7}, {7, -inf, 7}, {7, minus, 7}, {7, 0, 7}, {7, 1, 14},
		{-1, 0.5, 0}, {-5, inf, 0}, {-5, nan, 0}, {math.MinInt, 1, 0}, {math.MinInt, inf, 0}, {-1, -3, 0},
		{0, 0, 0}, {0, inf, 0}, {0, nan, 0}, {0, -1, 0}, {0, minus, 0}, {0, greatest, 0},
		{1, 0, 1}, {1, least, 1}, {1, leastPlain, 1}, {1, inf, greatest}, {1, greatest, greatest}, {1, below, below},
		{2, greatest, inf}, {2, below, inf}, {2, greatest / 2, greatest}, {3, greatest / 2, inf}, {2, below / 2, below},
		{math.MaxInt, 0, 0x1p63}, {math.MaxInt, 1, 0x1p64}, {math.MaxInt, inf, inf}, {math.MaxInt, nan, 0x1p63},
		{1<<53 + 1, 0, 0x1p53}, {1<<53 + 1, 1, 0x1p54}, {1<<53 + 3, 0, 0x1p53 + 4},
		// The sum is rounded ahead of the product: 1 and 2^-53 are 1.
		{3, 0x1p-53, 3}, {5, 0x1p-53, 5}, {3, 0x1p-52, 3 + 0x1p-50},
	} {
		if out := Cost(c.load, c.weight); !same(out, c.want) {
			t.Errorf("Cost(%d, %g) is %g, not %g", c.load, c.weight, out, c.want)
		}
	}
}

func TestP102CostByFractions(t *testing.T) {
	check := func(load int, weight float64) float64 {
		out := Cost(load, weight)
		if want := costOf(load, weight); !same(out, want) {
			t.Errorf("Cost(%d, %g) is %g, not %g", load, weight, out, want)
		}
		return out
	}
	for _, load := range wholes() {
		for _, weight := range kinds() {
			check(load, weight)
		}
	}
	n := noise(4)
	infinite, nought := 0, 0
	for range 20000 {
		switch out := check(n.whole(), n.float()); {
		case out == 0:
			nought++
		case math.IsInf(out, 1):
			infinite++
		}
	}
	if infinite < 100 || nought < 1000 || infinite+nought > 15000 {
		t.Errorf("%d infinite, %d nought: too few of one kind", infinite, nought)
	}
}

func TestP102DecayWrittenOut(t *testing.T) {
	for _, c := range []struct {
		old  float64
		n    int
		want float64
	}{
		{8, 3, 7}, {8, 0, 4}, {8, -1, 4}, {8, math.MinInt, 4}, {8, -3, 4}, {1, 0, 0.5}, {1, 1, 1.5}, {0, 1, 1}, {0, 0, 0}, {3, 1, 2.5},
		{nan, -3, 0}, {nan, 3, 3}, {-nan, 3, 3}, {-8, 3, 3}, {-inf, 3, 3}, {minus, 3, 3}, {minus, 0, 0}, {minus, -1, 0}, {-1, -1, 0}, {-inf, 0, 0}, {-least, 0, 0},
		// The half of the least is as near to 0 as to the least: 0 is even; of three of them two are.
		{least, 0, 0}, {least, 1, 1}, {2 * least, 0, least}, {3 * least, 0, 2 * least}, {leastPlain, 0, leastPlain / 2}, {leastPlain, -7, leastPlain / 2},
		{inf, 0, greatest / 2}, {inf, 1 << 62, greatest / 2}, {inf, math.MaxInt, greatest / 2}, {greatest, 0, greatest / 2}, {greatest, math.MinInt, greatest / 2}, {below, 0, below / 2},
		{0, math.MaxInt, 0x1p63}, {nan, math.MaxInt, 0x1p63}, {0x1p64, math.MaxInt, 0x1p64}, {0, math.MaxInt - 1024, 0x1p63 - 1024}, {0, math.MaxInt - 512, 0x1p63 - 1024}, {0, math.MaxInt - 511, 0x1p63},
		// n is rounded ahead of the sum.
		{0, 1<<53 + 1, 0x1p53}, {2, 1<<53 + 1, 0x1p53}, {2, 1 << 53, 0x1p53}, {4, 1<<53 + 1, 0x1p53 + 2},
	} {
		if out := Decay(c.old, c.n); !same(out, c.want) {
			t.Errorf("Decay(%g, %d) is %g, not %g", c.old, c.n, out, c.want)
		}
	}
}

func TestP102DecayByFractions(t *testing.T) {
	check := func(old float64, n int) {
		if out, want := Decay(old, n), decayOf(old, n); !same(out, want) {
			t.Errorf("Decay(%g, %d) is %g, not %g", old, n, out, want)
		}
	}
	for _, old := range kinds() {
		for _, n := range wholes() {
			check(old, n)
		}
	}
	x := noise(5)
	for range 20000 {
		check(x.float(), x.whole())
	}
}

// What was goes: with nothing new it is 0 at the end, however great it was.
func TestP102DecayEnds(t *testing.T) {
	for _, x := range []float64{inf, greatest, 1, leastPlain, least} {
		for range 3000 {
			x = Decay(x, 0)
		}
		if !same(x, 0) {
			t.Errorf("%g is left", x)
		}
	}
}

func TestP103TotalWrittenOut(t *testing.T) {
	for _, c := range []struct {
		l    []float64
		want float64
	}{
		{nil, 0}, {[]float64{}, 0}, {[]float64{1, nan, 3, -5}, 4}, {[]float64{7}, 7}, {[]float64{-7}, 0},
		{[]float64{nan}, 0}, {[]float64{minus}, 0}, {[]float64{minus, minus}, 0}, {[]float64{nan, -1, -inf, minus, -nan, 0}, 0},
		{[]float64{inf}, greatest}, {[]float64{inf, inf}, greatest}, {[]float64{inf, -inf}, greatest}, {[]float64{inf, nan, inf}, greatest},
		{[]float64{greatest, greatest}, greatest}, {[]float64{greatest, below, -greatest, 1}, greatest}, {[]float64{greatest / 2, greatest / 2}, greatest}, {[]float64{below / 2, below / 2}, below}, {[]float64{below}, below}, {[]float64{below, 1}, below},
		{[]float64{least}, least}, {[]float64{least, least, least}, 3 * least}, {[]float64{leastPlain, least}, leastPlain + least},
		// From the first on: 2^53 and 1 are 2^53, but 1 and 1 are 2.
		{[]float64{0x1p53, 1, 1}, 0x1p53}, {[]float64{1, 1, 0x1p53}, 0x1p53 + 2}, {[]float64{1, 0x1p53, 1}, 0x1p53},
		{[]float64{0.1, 0.2, 0.3}, 0.6000000000000001}, {[]float64{0.3, 0.2, 0.1}, 0.6},
	} {
		if out := Total(c.l); !same(out, c.want) {
			t.Errorf("Total(%v) is %v, not %v", c.l, out, c.want)
		}
	}
}

func TestP103TotalByFractions(t *testing.T) {
	turned := 0
	for _, l := range lists() {
		out := Total(l)
		if want := totalOf(l); !same(out, want) {
			t.Errorf("Total(%v) is %g, not %g", l, out, want)
		}
		l = slices.Clone(l)
		slices.Reverse(l)
		if !same(Total(l), out) {
			turned++
		}
	}
	if turned == 0 {
		t.Error("no list's sum hangs on its order: too few lists")
	}
}

func TestP103ShareWrittenOut(t *testing.T) {
	third := 1.0 / 3
	for _, c := range []struct{ l, want []float64 }{
		{[]float64{1, nan, 3}, []float64{0.25, 0, 0.75}},
		{[]float64{-1, 0}, []float64{0.5, 0.5}},
		{nil, nil},
		{[]float64{}, nil},
		{[]float64{5}, []float64{1}},
		{[]float64{0}, []float64{1}},
		{[]float64{minus}, []float64{1}},
		{[]float64{nan}, []float64{1}},
		{[]float64{-inf}, []float64{1}},
		{[]float64{inf}, []float64{1}},
		{[]float64{greatest}, []float64{1}},
		{[]float64{least}, []float64{1}},
		{[]float64{nan, -1, minus}, []float64{third, third, third}},
		{noNumbers()[:4], []float64{0.25, 0.25, 0.25, 0.25}},
		{[]float64{inf, 1, -1}, []float64{1, 1 / greatest, 0}},
		{[]float64{inf, inf}, []float64{1, 1}},
		{[]float64{greatest, greatest / 2}, []float64{1, 0.5}},
		{[]float64{inf, least}, []float64{1, 0}},
		{[]float64{greatest, minus}, []float64{1, 0}},
		{[]float64{least, least}, []float64{0.5, 0.5}},
		{[]float64{0, least}, []float64{0, 1}},
		{[]float64{minus, -least, nan, 4}, []float64{0, 0, 0, 1}},
		{[]float64{leastPlain, leastPlain, 0}, []float64{0.5, 0.5, 0}},
		// A number is divided by the total, not multiplied with a part of 1: 5 by 6, 3 by 5.
		{[]float64{5, 1}, []float64{0.8333333333333334, 0.16666666666666666}},
		{[]float64{3, 2}, []float64{0.6, 0.4}},
		// The total is summed up from the first on.
		{[]float64{0x1p53, 1, 1}, []float64{1, 0x1p-53, 0x1p-53}},
	} {
		if out := Share(c.l); !sameList(out, c.want) {
			t.Errorf("Share(%v) is %v, not %v", c.l, out, c.want)
		}
	}
}

func TestP103ShareByFractions(t *testing.T) {
	none, some := 0, 0
	for _, l := range lists() {
		if out, want := Share(l), shareOf(l); !sameList(out, want) {
			t.Errorf("Share(%v) is %v, not %v", l, out, want)
		}
		if totalOf(l) == 0 {
			none++
		} else {
			some++
		}
	}
	if none < 50 || some < 200 {
		t.Errorf("%d lists of which none counts, %d others: too few of one kind", none, some)
	}
	for many := 1; many < 200; many++ {
		l := make([]float64, many)
		if out, want := Share(l), shareOf(l); !sameList(out, want) {
			t.Errorf("Share of %d noughts is %v", many, out)
		}
	}
}

// roomy is a list, and all of the room that it has: the same memory.
func roomy(l []float64, room int) ([]float64, []float64) {
	whole := slices.Concat(l, slices.Repeat([]float64{-77}, room))
	return whole[:len(l)], whole
}

// What is handed in stays as it is, the room behind it too, by the call and by what is written into the answer.
func TestP103HandedInStays(t *testing.T) {
	for _, given := range lists() {
		for _, room := range []int{0, 1, 9} {
			l, whole := roomy(given, room)
			before := slices.Clone(whole)
			Order(l)
			Best(l)
			Total(l)
			out := Share(l)
			if !sameList(whole, before) {
				t.Fatalf("with room %d a call changes %v", room, given)
			}
			out = out[:cap(out)]
			for i := range out {
				out[i] = 55
			}
			if !sameList(whole, before) {
				t.Fatalf("with room %d the answer to %v is what was handed in", room, given)
			}
		}
	}
}

// No answer is in another one, nor is any kept; a list that is changed behind the call changes no answer.
func TestP103AnswersAreNew(t *testing.T) {
	for _, given := range lists() {
		l := slices.Clone(given)
		order, share := Order(l), Share(l)
		for i := range l {
			l[i] = -9
		}
		second, again := Order(given), Share(given)
		if !slices.Equal(order, second) || !sameList(share, again) {
			t.Fatalf("the answers to %v hang on what is written into it behind the call", given)
		}
		for i := range second {
			second[i], again[i] = -1, -1
		}
		if !slices.Equal(order, placesOf(given)) || !sameList(share, shareOf(given)) {
			t.Fatalf("two answers to %v are one", given)
		}
		if !slices.Equal(Order(given), order) || !sameList(Share(given), share) {
			t.Fatalf("an answer to %v is kept", given)
		}
	}
}
