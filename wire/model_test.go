package wire

import (
	"bytes"
	"fmt"
	"math"
	"math/big"
	"strings"
	"testing"

	"milepost/api"
	"milepost/cube"
)

// What the tests reckon with: numbers of any length and their digits of base 16, cubes by their letters (cube's Text and Parse); apart from the package's shifts.

var (
	ones    = api.Header{255, 255, 255, 255, 255, 255, 255, 255, 255, 255, 255, 255, 255}
	nothing = api.Cube{}
)

// noise is a row of numbers without a pattern, always the same one.
type noise uint64

func (n *noise) next() byte {
	*n ^= *n << 13
	*n ^= *n >> 7
	*n ^= *n << 17
	return byte(*n >> 32)
}

func (n *noise) bytes(many int) []byte {
	out := make([]byte, many)
	for i := range out {
		out[i] = n.next()
	}
	return out
}

func (n *noise) header() api.Header {
	return api.Header(n.bytes(api.HeadBytes))
}

// power is two to a number, less by down: no number of 64 bits need hold it.
func power(exponent int, down int64) *big.Int {
	p := new(big.Int).Lsh(big.NewInt(1), uint(exponent))
	return p.Sub(p, big.NewInt(down))
}

// fits tells whether a number has room in so many bytes.
func fits(n uint64, size int) bool {
	return new(big.Int).SetUint64(n).Cmp(power(8*size, 0)) < 0
}

// written is a number in so many bytes, by its digits of base 16.
func written(n uint64, size int) []byte {
	var out []byte
	s := fmt.Sprintf("%0*x", 2*size, n)
	for ; s != ""; s = s[2:] {
		var x byte
		fmt.Sscanf(s[:2], "%x", &x)
		out = append(out, x)
	}
	return out
}

func numberOf(b []byte) uint64 {
	return new(big.Int).SetBytes(b).Uint64()
}

// edgeNumbers are those that just fit some bytes, one more, one less, and some in between.
func edgeNumbers() []uint64 {
	out := []uint64{0, 1, 2, 127, 128, 258, 0x0102030405060708, 0xfedcba9876543210, math.MaxInt64, math.MaxInt64 + 1, math.MaxUint64 - 1, math.MaxUint64}
	for size := 1; size <= 8; size++ {
		for _, down := range []int64{2, 1, 0, -1} {
			if p := power(8*size, down); p.IsUint64() {
				out = append(out, p.Uint64())
			}
		}
	}
	return out
}

func noSizes() []int {
	return []int{0, -1, -2, -8, math.MinInt, 9, 10, 16, 64, 256, 257, 1 << 32, 1<<32 + 1, math.MaxInt}
}

// noPlaces are those below 0.
func noPlaces() []int {
	return []int{-1, -2, -8, -26, -1 << 32, math.MinInt + 1, math.MinInt}
}

// farPlaces are those at which nothing stands, from the end of so many bytes on.
func farPlaces(size int) []int {
	return []int{size, size + 1, size + 26, 1 << 31, 1 << 32, math.MaxInt - 26, math.MaxInt - 25, math.MaxInt - 8, math.MaxInt - 7, math.MaxInt - 1, math.MaxInt}
}

// fronts are bytes behind which something is laid: nothing, empty ones, some, some with room behind them.
func fronts() [][]byte {
	roomy := make([]byte, 3, 64)
	copy(roomy, "abc")
	return [][]byte{nil, {}, make([]byte, 0, 64), {7}, {0}, {0, 0, 255}, roomy, bytes.Repeat([]byte{9}, 300)}
}

func behind(front []byte, more ...[]byte) []byte {
	return bytes.Join(append([][]byte{front}, more...), nil)
}

// right makes the right cube of some letters, the bits behind them being free.
func right(s string) api.Cube {
	c, _ := cube.Parse(s + strings.Repeat("*", api.HeadBits-len(s)))
	return c
}

// plainly are a cube's bytes as they are, right or not.
func plainly(c api.Cube) []byte {
	var out []byte
	for _, x := range c.Value {
		out = append(out, x)
	}
	for _, x := range c.Mask {
		out = append(out, x)
	}
	return out
}

// someCubes are cubes of all kinds, right ones and such as aren't.
func someCubes() []api.Cube {
	x := noise(92)
	out := []api.Cube{{}, {Value: ones}, {Mask: ones}, {Value: ones, Mask: ones}, right("01*10"), {Value: api.Header{12: 1}}, {Value: ones, Mask: api.Header{12: 1}}, {Value: api.Header{128}, Mask: api.Header{127}}}
	for range 100 {
		c := api.Cube{Value: x.header(), Mask: x.header()}
		out = append(out, c, right(cube.Text(c)))
	}
	return out
}

// puts holds what Put answers against what it must be.
func puts(t *testing.T, b []byte, n uint64, size int, want []byte, wantErr api.Errno) {
	t.Helper()
	if got, e := Put(b, n, size); !bytes.Equal(got, want) || e != wantErr {
		t.Errorf("Put(%v, %d, %d): %v, %d, not %v, %d", b, n, size, got, e, want, wantErr)
	}
}

func takes(t *testing.T, b []byte, at int, size int, want uint64, wantErr api.Errno) {
	t.Helper()
	if got, e := Take(b, at, size); got != want || e != wantErr {
		t.Errorf("Take of %d bytes, %d, %d: %d, %d, not %d, %d", len(b), at, size, got, e, want, wantErr)
	}
}

func takesCube(t *testing.T, b []byte, at int, want api.Cube, wantErr api.Errno) {
	t.Helper()
	if got, e := TakeCube(b, at); got != want || e != wantErr {
		t.Errorf("TakeCube(%v, %d): %v, %d, not %v, %d", b, at, got, e, want, wantErr)
	}
}

func seals(t *testing.T, kind int, body []byte, want []byte, wantErr api.Errno) {
	t.Helper()
	if got, e := Seal(kind, body); !bytes.Equal(got, want) || e != wantErr {
		t.Errorf("Seal(%d, %d bytes): %d bytes, %d, not %d bytes, %d", kind, len(body), len(got), e, len(want), wantErr)
	}
}

func opens(t *testing.T, b []byte, wantKind int, want []byte, wantErr api.Errno) {
	t.Helper()
	if kind, body, e := Open(b); kind != wantKind || !bytes.Equal(body, want) || e != wantErr {
		t.Errorf("Open of %d bytes: %d, %d bytes, %d, not %d, %d bytes, %d", len(b), kind, len(body), e, wantKind, len(want), wantErr)
	}
}
