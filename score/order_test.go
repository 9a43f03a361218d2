package score

import (
	"math"
	"slices"
	"testing"
)

func TestP101CleanWrittenOut(t *testing.T) {
	for _, c := range []struct{ x, want float64 }{
		{-1, 0}, {minus, 0}, {nan, 0}, {inf, greatest},
		{0, 0}, {-inf, 0}, {-least, 0}, {-leastPlain, 0}, {-greatest, 0}, {-0.5, 0},
		{least, least}, {2 * least, 2 * least}, {leastPlain, leastPlain}, {math.Nextafter(leastPlain, 0), math.Nextafter(leastPlain, 0)},
		{0.1, 0.1}, {1, 1}, {2.5, 2.5}, {0x1p53, 0x1p53}, {below, below}, {greatest, greatest},
	} {
		if y := Clean(c.x); !same(y, c.want) {
			t.Errorf("Clean(%g) is %g (sign %v), not %g", c.x, y, math.Signbit(y), c.want)
		}
	}
	for _, x := range noNumbers() {
		if y := Clean(x); !same(y, 0) {
			t.Errorf("Clean of the bits %x is %g", math.Float64bits(x), y)
		}
	}
}

func TestP101CleanByBits(t *testing.T) {
	l := kinds()
	n := noise(1)
	for range 20000 {
		l = append(l, n.float())
	}
	stays := 0
	for _, x := range l {
		y := Clean(x)
		if !same(y, cleaned(x)) {
			t.Errorf("Clean(%g), bits %x, is %g", x, math.Float64bits(x), y)
		}
		if !same(Clean(y), y) {
			t.Errorf("Clean of Clean(%g) is another one", x)
		}
		if same(x, y) {
			stays++
		}
	}
	if stays < 5000 || stays > len(l)-5000 {
		t.Errorf("%d of %d stay: too few of one kind", stays, len(l))
	}
}

func TestP101LessWrittenOut(t *testing.T) {
	for _, c := range []struct {
		x, y float64
		want bool
	}{
		{1, 2, true}, {2, 1, false}, {1, 1, false}, {-1, 1, true}, {-1, -2, false}, {-2, -1, true},
		{minus, 0, false}, {0, minus, false}, {0, 0, false}, {minus, minus, false},
		{0, least, true}, {minus, least, true}, {-least, minus, true}, {-least, 0, true}, {least, 2 * least, true}, {least, 0, false},
		{below, greatest, true}, {greatest, below, false}, {greatest, inf, true}, {inf, greatest, false}, {-inf, -greatest, true}, {-inf, inf, true}, {inf, inf, false}, {-inf, -inf, false},
		{nan, nan, false}, {1, nan, true}, {nan, 1, false}, {inf, nan, true}, {nan, inf, false}, {-inf, nan, true}, {nan, -inf, false}, {0, nan, true}, {minus, nan, true}, {nan, 0, false},
	} {
		if Less(c.x, c.y) != c.want {
			t.Errorf("Less(%g, %g) is %v", c.x, c.y, !c.want)
		}
	}
}

// Every kind against every kind: what is no number stands behind all numbers, and alike among itself, whatever its bits.
func TestP101LessByBits(t *testing.T) {
	n := noise(2)
	l := append(kinds(), n.floats(300)...)
	for _, x := range l {
		for _, y := range l {
			if Less(x, y) != (height(x) < height(y)) {
				t.Errorf("Less of the bits %x and %x is %v", math.Float64bits(x), math.Float64bits(y), Less(x, y))
			}
		}
	}
}

func TestP101OrderWrittenOut(t *testing.T) {
	for _, c := range []struct {
		l    []float64
		want []int
	}{
		{[]float64{nan, 1, -inf, minus, 0}, []int{2, 3, 4, 1, 0}},
		{nil, nil},
		{[]float64{}, nil},
		{[]float64{7}, []int{0}},
		{[]float64{nan}, []int{0}},
		{[]float64{4, 4, 4, 4}, []int{0, 1, 2, 3}},
		{[]float64{0, minus, 0, minus}, []int{0, 1, 2, 3}},
		{[]float64{minus, 0, minus, 0}, []int{0, 1, 2, 3}},
		{[]float64{nan, -nan, nan}, []int{0, 1, 2}},
		{[]float64{nan, inf, nan, -inf}, []int{3, 1, 0, 2}},
		{[]float64{3, 2, 1}, []int{2, 1, 0}},
		{[]float64{2, 1, 2, 1, 2}, []int{1, 3, 0, 2, 4}},
		{[]float64{inf, greatest, below, leastPlain, least, 0, -least, -greatest, -inf}, []int{8, 7, 6, 5, 4, 3, 2, 1, 0}},
	} {
		if out := Order(c.l); !slices.Equal(out, c.want) {
			t.Errorf("Order(%v) is %v, not %v", c.l, out, c.want)
		}
	}
	none := noNumbers()
	if out := Order(none); !slices.IsSorted(out) || len(out) != len(none) {
		t.Errorf("Order of what is no number is %v", out)
	}
}

func TestP101OrderByCounting(t *testing.T) {
	for _, l := range lists() {
		if out := Order(l); !slices.Equal(out, placesOf(l)) {
			t.Errorf("Order(%v) is %v, not %v", l, out, placesOf(l))
		}
	}
}

// A long list of a few numbers: each of those that stand alike in the row in which they came.
func TestP101OrderLong(t *testing.T) {
	n := noise(3)
	l := make([]float64, 3000)
	few := []float64{nan, 0, minus, 1, -1, inf, -nan}
	for i := range l {
		l[i] = few[n.below(len(few))]
	}
	out := Order(l)
	if !slices.Equal(out, placesOf(l)) {
		t.Error("a long list is out of order")
	}
	if Best(l) != out[0] {
		t.Errorf("Best is %d, not %d", Best(l), out[0])
	}
}

func TestP101BestWrittenOut(t *testing.T) {
	for _, c := range []struct {
		l    []float64
		want int
	}{
		{nil, -1},
		{[]float64{}, -1},
		{make([]float64, 0, 9), -1},
		{[]float64{7}, 0},
		{[]float64{nan}, 0},
		{[]float64{nan, nan}, 0},
		{[]float64{-nan, nan, inf}, 2},
		{[]float64{nan, 3, 3}, 1},
		{[]float64{nan, 1, -inf, minus, 0}, 2},
		{[]float64{0, minus}, 0},
		{[]float64{minus, 0}, 0},
		{[]float64{1, 0, minus}, 1},
		{[]float64{least, 0, -least, -least}, 2},
		{[]float64{inf, greatest, below}, 2},
		{[]float64{5, 5, 5}, 0},
		{[]float64{1, 2, 3, 0}, 3},
		{[]float64{1, 2, nan}, 0},
	} {
		if out := Best(c.l); out != c.want {
			t.Errorf("Best(%v) is %d, not %d", c.l, out, c.want)
		}
	}
}

func TestP101BestIsTheFirst(t *testing.T) {
	for _, l := range lists() {
		want := -1
		if len(l) > 0 {
			want = placesOf(l)[0]
		}
		if out := Best(l); out != want {
			t.Errorf("Best(%v) is %d, not %d", l, out, want)
		}
	}
}
