// Package place is layer 1: see shared/doc/01-place.md.
package place

import (
	"cmp"
	"strconv"

	"headgate/api"
)

// first is the place of index 0 of every text.
const first complex128 = 1 + 1i

// maxWhole is the greatest number that is written in digits: above it not every integer is a float64.
const maxWhole = 1 << 53

// At returns the place of the index n.
func At(text string, n int) (complex128, api.Errno) {
	if n < 0 || n > len(text) {
		return 0, api.ErrPlace
	}
	return Moved(first, text[:n]), api.OK
}

// Index returns the index whose place is p.
func Index(text string, p complex128) (int, api.Errno) {
	n, at := 0, first
next:
	if at == p {
		return n, api.OK
	}
	if n == len(text) {
		return 0, api.ErrPlace
	}
	at = behind(at, text[n])
	n++
	goto next
}

// behind returns the place that follows a byte at a place.
func behind(at complex128, c byte) complex128 {
	if c == '\n' {
		return complex(real(at)+1, 1)
	}
	return at + 1i
}

// Compare returns -1, 0 or 1: lines go before columns, and NaN before all numbers.
func Compare(a, b complex128) int {
	if c := cmp.Compare(real(a), real(b)); c != 0 {
		return c
	}
	return cmp.Compare(imag(a), imag(b))
}

// Text returns the line, a colon, and the column.
func Text(p complex128) string {
	return digits(real(p)) + ":" + digits(imag(p))
}

// digits writes a part of a place. By way of an integer, a negative zero has no sign.
func digits(x float64) string {
	if !(x >= 0 && x <= maxWhole) || x != float64(int64(x)) {
		return "?"
	}
	return strconv.FormatInt(int64(x), 10)
}

// Moved returns the place of the end of a text that begins at p.
func Moved(p complex128, text string) complex128 {
	// All is counted ahead of the one sum, since adding ones would round each time.
	feeds, rest := measure(text)
	if feeds == 0 {
		return p + complex(0, float64(rest))
	}
	return complex(real(p)+float64(feeds), float64(1+rest))
}

// measure counts the line feeds of a text, and the bytes behind the last of them.
func measure(text string) (feeds, rest int) {
	n := 0
next:
	if n == len(text) {
		return feeds, rest
	}
	rest++
	if text[n] == '\n' {
		feeds, rest = feeds+1, 0
	}
	n++
	goto next
}
