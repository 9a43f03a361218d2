package head

import (
	"strconv"

	"milepost/api"
)

// part is a number of a header's text: from which byte of the header on it stands, and how many it has.
type part struct {
	at   int
	size int
}

// parts has a text's numbers in the order in which they are written.
var parts = [11]part{
	{0, 1}, {1, 1}, {2, 1}, {3, 1}, {8, 2}, // the source, its port
	{4, 1}, {5, 1}, {6, 1}, {7, 1}, {10, 2}, // the destination, its port
	{12, 1}, // the protocol
}

// signs has the sign behind each number but the last one.
const signs = "...:>...:/"

// empty stands for a number of which no digit was read: 0 would be one that is whole.
const empty = -1

// Text: a header as text.
func Text(h api.Header) string {
	var out []byte
	for i, p := range parts {
		out = strconv.AppendUint(out, uint64(get(h, p.at, p.size)), 10)
		if i < len(signs) {
			out = append(out, signs[i])
		}
	}
	return string(out)
}

// Parse: a text as a header.
func Parse(s string) (api.Header, api.Errno) {
	var h api.Header
	i, n := 0, empty
	for _, r := range s {
		if r >= '0' && r <= '9' {
			longer, ok := lengthen(n, int(r-'0'), parts[i].size)
			if !ok {
				return api.Header{}, api.ErrForm
			}
			n = longer
			continue
		}
		if n == empty || i == len(signs) || r != rune(signs[i]) {
			return api.Header{}, api.ErrForm
		}
		h = put(h, parts[i].at, parts[i].size, uint32(n))
		i, n = i+1, empty
	}
	if n == empty || i < len(signs) {
		return api.Header{}, api.ErrForm
	}
	return put(h, parts[i].at, parts[i].size, uint32(n)), api.OK
}

// lengthen is a number with a digit behind it; false, if that makes a nought ahead needless, or goes beyond so many bytes.
func lengthen(n int, digit int, size int) (int, bool) {
	if n == empty {
		return digit, true
	}
	longer := n*10 + digit
	if n == 0 || longer >= 1<<(8*size) {
		return 0, false
	}
	return longer, true
}
