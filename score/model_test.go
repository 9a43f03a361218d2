package score

import (
	"math"
	"math/big"
	"slices"
	"testing"
)

// What the tests reckon with: floats by their bits, and fractions of any length, each of which is rounded once; apart from the package's own sums and comparisons.

const (
	least      = math.SmallestNonzeroFloat64
	leastPlain = 0x1p-1022 // the least that is normal
	greatest   = math.MaxFloat64
	below      = 0x1.ffffffffffffep+1023 // one below the greatest
	signBit    = 1 << 63
	infBits    = 0x7ff << 52
)

var (
	inf   = math.Inf(1)
	nan   = math.NaN()
	minus = math.Copysign(0, -1)
)

// noNumbers are several bit patterns of what is no number: quiet ones and others, of both signs.
func noNumbers() []float64 {
	var out []float64
	for _, b := range []uint64{1, 2, 1 << 50, 1 << 51, 1<<51 + 1, 1<<52 - 1} {
		out = append(out, math.Float64frombits(infBits|b), math.Float64frombits(signBit|infBits|b))
	}
	return append(out, nan, -nan)
}

// kinds are floats of every kind, those of both signs side by side.
func kinds() []float64 {
	out := noNumbers()
	for _, x := range []float64{0, least, 2 * least, 3 * least, math.Nextafter(leastPlain, 0), leastPlain, math.Nextafter(leastPlain, 1), 0x1p-53, 0x1p-52, 0.1, 0.5, math.Nextafter(1, 0), 1, math.Nextafter(1, 2), 1.5, 2, 3, 2.5, 0x1p52, 0x1p53, 0x1p53 + 2, 0x1p63, 0x1p64, 1e300, greatest / 2, below / 2, below, greatest, inf} {
		out = append(out, x, math.Copysign(x, -1))
	}
	return out
}

func wholes() []int {
	return []int{math.MinInt, math.MinInt + 1, -1 << 32, -5, -2, -1, 0, 1, 2, 3, 7, 1 << 31, 1<<53 - 1, 1 << 53, 1<<53 + 1, 1<<53 + 3, 1 << 62, math.MaxInt - 1024, math.MaxInt - 512, math.MaxInt - 511, math.MaxInt - 1, math.MaxInt}
}

// noise is a row of numbers without a pattern, always the same one.
type noise uint64

func (n *noise) next() uint64 {
	*n ^= *n << 13
	*n ^= *n >> 7
	*n ^= *n << 17
	return uint64(*n)
}

func (n *noise) below(many int) int {
	return int(n.next() >> 11 % uint64(many))
}

// float is one of any kind: of any bits, of an edge, or of numbers near each other.
func (n *noise) float() float64 {
	switch n.below(4) {
	case 0:
		return math.Float64frombits(n.next())
	case 1:
		l := kinds()
		return l[n.below(len(l))]
	case 2:
		return float64(n.below(5) - 1)
	}
	return float64(n.below(1<<40)) / 1e6
}

func (n *noise) floats(many int) []float64 {
	out := make([]float64, many)
	for i := range out {
		out[i] = n.float()
	}
	return out
}

func (n *noise) whole() int {
	if n.below(2) == 0 {
		l := wholes()
		return l[n.below(len(l))]
	}
	return int(n.next()) >> n.below(64)
}

// same tells whether two floats are one, the sign of a nought too.
func same(x float64, y float64) bool {
	return math.Float64bits(x) == math.Float64bits(y)
}

func sameList(l []float64, m []float64) bool {
	return slices.EqualFunc(l, m, same)
}

func isNone(x float64) bool {
	return math.Float64bits(x)&^signBit > infBits
}

// cleaned is Clean by the bits.
func cleaned(x float64) float64 {
	b := math.Float64bits(x)
	switch {
	case b >= signBit || b > infBits:
		b = 0
	case b == infBits:
		b--
	}
	return math.Float64frombits(b)
}

// height is where a float stands in the order, by its bits.
func height(x float64) int {
	b := int(math.Float64bits(x) &^ signBit)
	switch {
	case isNone(x):
		return math.MaxInt
	case math.Float64bits(x) >= signBit:
		return -b
	}
	return b
}

// placesOf puts places in order by counting who stands ahead of each.
func placesOf(l []float64) []int {
	out := make([]int, len(l))
	for i, x := range l {
		ahead := 0
		for j, y := range l {
			if height(y) < height(x) || height(y) == height(x) && j < i {
				ahead++
			}
		}
		out[ahead] = i
	}
	return out
}

func exactly(x float64) *big.Rat {
	return new(big.Rat).SetFloat64(x)
}

func fraction(n int) *big.Rat {
	return new(big.Rat).SetInt64(int64(n))
}

// rounded is the float nearest to a fraction, of two the even one.
func rounded(r *big.Rat) float64 {
	x, _ := r.Float64()
	return x
}

func sum(x float64, y float64) float64 {
	return rounded(new(big.Rat).Add(exactly(x), exactly(y)))
}

func product(x float64, y float64) float64 {
	return rounded(new(big.Rat).Mul(exactly(x), exactly(y)))
}

func quotient(x float64, y float64) float64 {
	return rounded(new(big.Rat).Quo(exactly(x), exactly(y)))
}

func costOf(load int, weight float64) float64 {
	if load < 0 {
		return 0
	}
	return product(rounded(fraction(load)), sum(1, cleaned(weight)))
}

func decayOf(old float64, n int) float64 {
	came := 0.0
	if n >= 0 {
		came = rounded(fraction(n))
	}
	return cleaned(sum(quotient(cleaned(old), 2), came))
}

func totalOf(l []float64) float64 {
	total := 0.0
	for _, x := range l {
		total = cleaned(sum(total, cleaned(x)))
	}
	return total
}

func shareOf(l []float64) []float64 {
	var out []float64
	total := totalOf(l)
	for _, x := range l {
		part := rounded(big.NewRat(1, int64(len(l))))
		if total != 0 {
			part = quotient(cleaned(x), total)
		}
		out = append(out, part)
	}
	return out
}

// lists are lists of floats: nothing, empty ones, of one, of such as stand alike, and of any kind.
func lists() [][]float64 {
	out := [][]float64{nil, {}, make([]float64, 0, 5), noNumbers(), kinds(), {minus, 0, minus, 0}, {0, minus}, {greatest, greatest}, {inf, -inf, inf}, {below, least, greatest}, {5, 5, 5}, {3, 2, 1, 0, -1}, {-inf, -1, minus}}
	for _, x := range kinds() {
		out = append(out, []float64{x}, []float64{x, x}, []float64{x, 1, x}, []float64{1, x, 3})
	}
	x := noise(101)
	for range 400 {
		out = append(out, x.floats(x.below(40)))
	}
	return out
}

// The tests' own reckoning is held against what is written down in the chapter.
func TestReckoning(t *testing.T) {
	if !sameList([]float64{cleaned(-1), cleaned(minus), cleaned(nan), cleaned(inf), cleaned(2.5), cleaned(least)}, []float64{0, 0, 0, greatest, 2.5, least}) {
		t.Error("cleaned")
	}
	if !slices.Equal(placesOf([]float64{nan, 1, -inf, minus, 0}), []int{2, 3, 4, 1, 0}) {
		t.Error("placesOf")
	}
	if costOf(2, 0.5) != 3 || costOf(2, inf) != inf || decayOf(8, 3) != 7 || totalOf([]float64{1, nan, 3, -5}) != 4 {
		t.Error("costOf, decayOf, totalOf")
	}
	if !sameList(shareOf([]float64{1, nan, 3}), []float64{0.25, 0, 0.75}) || !sameList(shareOf([]float64{-1, 0}), []float64{0.5, 0.5}) {
		t.Error("shareOf")
	}
}
