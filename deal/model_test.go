package deal

import (
	"fmt"
	"math"
	"math/big"
	"slices"
	"testing"

	"milepost/api"
)

// What the tests reckon with: the leaves picked one by one, sums of any length, costs worked out by the words of chapter 10.

var (
	inf = math.Inf(1)
	nan = math.NaN()
)

// noise is a row of numbers without a pattern, always the same one.
type noise uint64

func (n *noise) next() uint64 {
	*n ^= *n << 13
	*n ^= *n >> 7
	*n ^= *n << 17
	return uint64(*n)
}

func (n *noise) below(limit int) int {
	return int(n.next()>>32) % limit
}

// whole is a number below the limit, at times one at an edge or below 0.
func (n *noise) whole(limit int) int {
	edges := []int{0, -1, math.MinInt, limit, 0, 1}
	if n.below(5) == 0 {
		return edges[n.below(len(edges))]
	}
	return n.below(limit)
}

func (n *noise) wholes(many int, limit int) []int {
	var out []int
	for range many {
		out = append(out, n.whole(limit))
	}
	return out
}

// weight is one of few, so that costs are often the same; of every kind.
func (n *noise) weight() float64 {
	l := []float64{0, 0, 0.5, 1, 1, 2, 3, 9, math.Copysign(0, -1), -1, nan, inf, -inf, math.MaxFloat64, 1e300, math.SmallestNonzeroFloat64}
	return l[n.below(len(l))]
}

func (n *noise) weights(many int) []float64 {
	var out []float64
	for range many {
		out = append(out, n.weight())
	}
	return out
}

// numbers are those of live: such as are there, others, and some twice.
func (n *noise) numbers(many int) []int {
	var out []int
	for range many {
		out = append(out, n.below(10)-1)
	}
	return out
}

// thereOf are the numbers from 1 to 6 that live has, rising.
func thereOf(live []int) []int {
	var out []int
	for _, n := range []int{1, 2, 3, 4, 5, 6} {
		if slices.Contains(live, n) {
			out = append(out, n)
		}
	}
	return out
}

func sizeOf(size int) *big.Int {
	if size < 0 {
		size = 0
	}
	return big.NewInt(int64(size))
}

// costOf is a sum as a float, times 1 and the weight as it counts.
func costOf(sum *big.Int, weight float64) float64 {
	switch {
	case math.IsNaN(weight) || weight < 0:
		weight = 0
	case weight > math.MaxFloat64:
		weight = math.MaxFloat64
	}
	x, _ := new(big.Float).SetInt(sum).Float64()
	return x * (1 + weight)
}

// nextOf is the place that is dealt next: of those that aren't done, the lowest of the greatest size; -1: all are done.
func nextOf(sizes []int, done []bool) int {
	at := -1
	for i, size := range sizes {
		if !done[i] && (at < 0 || sizeOf(size).Cmp(sizeOf(sizes[at])) > 0) {
			at = i
		}
	}
	return at
}

// giveOf puts those who have room in order by their costs, and gives to the first.
func giveOf(loads map[int]*big.Int, some []int, size int, weights []float64, room int) int {
	sum := func(n int) *big.Int { return new(big.Int).Add(loads[n], sizeOf(size)) }
	cost := func(n int) float64 {
		if len(weights) < n {
			return costOf(sum(n), 0)
		}
		return costOf(sum(n), weights[n-1])
	}
	some = slices.DeleteFunc(slices.Clone(some), func(n int) bool { return sum(n).Cmp(big.NewInt(int64(room))) > 0 })
	if len(some) == 0 {
		return 0
	}
	slices.SortFunc(some, func(a int, b int) int {
		switch {
		case cost(a) < cost(b):
			return -1
		case cost(a) > cost(b):
			return 1
		}
		return a - b
	})
	loads[some[0]] = sum(some[0])
	return some[0]
}

func dealOf(sizes []int, live []int, weights []float64, room int) ([]api.Pair, api.Errno) {
	there := thereOf(live)
	loads := map[int]*big.Int{}
	for _, n := range there {
		loads[n] = new(big.Int)
	}
	out, done := make([]api.Pair, len(sizes)), make([]bool, len(sizes))
	for {
		i := nextOf(sizes, done)
		if i < 0 {
			return out, api.OK
		}
		done[i] = true
		out[i].One = giveOf(loads, there, sizes[i], weights, room)
		if out[i].One == 0 {
			return nil, api.ErrBank
		}
		if len(there) == 1 {
			continue
		}
		others := slices.DeleteFunc(slices.Clone(there), func(n int) bool { return n == out[i].One })
		out[i].Two = giveOf(loads, others, sizes[i], weights, room)
		if out[i].Two == 0 {
			return nil, api.ErrBank
		}
	}
}

// loadsOf sums up the sizes of the first 4096 places that have n.
func loadsOf(sizes []int, l []api.Pair, n int) int {
	sum := new(big.Int)
	for i, size := range sizes {
		if i == 4096 || i == len(l) {
			break
		}
		if l[i].One != n && l[i].Two != n {
			continue
		}
		switch {
		case size > 1<<20:
			sum.Add(sum, big.NewInt(1048576))
		case size > 0:
			sum.Add(sum, big.NewInt(int64(size)))
		}
	}
	return int(sum.Int64())
}

// show tells pairs in short.
func show(l []api.Pair, e api.Errno) string {
	out := fmt.Sprint(int(e))
	for _, p := range l {
		out += fmt.Sprintf(" %d+%d", p.One, p.Two)
	}
	return out
}

// TestReckoning holds the reckoning itself against the chapter's examples.
func TestReckoning(t *testing.T) {
	sizes, live := []int{3, 5}, []int{1, 2, 3}
	if s := show(dealOf(sizes, live, nil, 9)); s != "0 3+1 1+2" {
		t.Error(s)
	}
	if s := show(dealOf(sizes, live, []float64{9, 0, 0}, 9)); s != "0 2+3 2+3" {
		t.Error(s)
	}
	if s := show(dealOf(sizes, live, nil, 4)); s != "15" {
		t.Error(s)
	}
	l, _ := dealOf(sizes, live, nil, 9)
	if a, b, c, d := loadsOf(sizes, l, 1), loadsOf(sizes, l, 2), loadsOf(sizes, l, 3), loadsOf(sizes, l, 4); a != 8 || b != 5 || c != 3 || d != 0 {
		t.Error(a, b, c, d)
	}
}
