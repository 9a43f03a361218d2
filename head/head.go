// Package head is layer 1: see shared/doc/01-head.md.
package head

import (
	"math/bits"

	"milepost/api"
)

// fields is how many a header has.
const fields = api.Proto + 1

// place is where a field stands: its first bit, and how many it has.
type place struct {
	first int
	width int
}

// places has the fields in the order of their numbers. All of them begin and end with a byte: the rest of the package leans on that.
var places = [fields]place{
	{0, 32},  // Src
	{32, 32}, // Dst
	{64, 16}, // Sport
	{80, 16}, // Dport
	{96, 8},  // Proto
}

// Make is the header with these fields.
func Make(src uint32, dst uint32, sport uint16, dport uint16, proto uint8) api.Header {
	numbers := [fields]uint32{src, dst, uint32(sport), uint32(dport), uint32(proto)}
	var h api.Header
	for f, v := range numbers {
		h = put(h, places[f].first/8, places[f].width/8, v)
	}
	return h
}

// Place: a field's first bit, and how many it has.
func Place(f int) (int, int, api.Errno) {
	if f < 0 || f >= fields {
		return 0, 0, api.ErrArg
	}
	return places[f].first, places[f].width, api.OK
}

// Field: a field's number.
func Field(h api.Header, f int) (uint32, api.Errno) {
	first, width, e := Place(f)
	if e != api.OK {
		return 0, e
	}
	return get(h, first/8, width/8), api.OK
}

// With: a header with another number in a field.
func With(h api.Header, f int, v uint32) (api.Header, api.Errno) {
	first, width, e := Place(f)
	if e != api.OK {
		return api.Header{}, e
	}
	if bits.Len32(v) > width {
		return api.Header{}, api.ErrRange
	}
	return put(h, first/8, width/8, v), api.OK
}

// Bit: is a bit one?
func Bit(h api.Header, i int) bool {
	return isBit(i) && h[i/8]&sieve(i) != 0
}

// Flip: a header with a bit turned.
func Flip(h api.Header, i int) api.Header {
	if isBit(i) {
		h[i/8] ^= sieve(i)
	}
	return h
}

// Less: does a stand ahead of b?
func Less(a api.Header, b api.Header) bool {
	for i := range a {
		// A byte's highest bit is its first one: so the lesser byte has the nought where they differ first.
		if a[i] != b[i] {
			return a[i] < b[i]
		}
	}
	return false
}

// get is the number that some bytes of a header are, the highest one first.
func get(h api.Header, at int, size int) uint32 {
	var v uint32
	for i := range size {
		v = v<<8 | uint32(h[at+i])
	}
	return v
}

// put is a header with a number in some of its bytes, the highest one first.
func put(h api.Header, at int, size int, v uint32) api.Header {
	for i := range size {
		h[at+i] = byte(v >> (8 * (size - 1 - i)))
	}
	return h
}

func isBit(i int) bool {
	return i >= 0 && i < api.HeadBits
}

// sieve has a one where the bit stands in its byte.
func sieve(i int) byte {
	return 128 >> (i % 8)
}
