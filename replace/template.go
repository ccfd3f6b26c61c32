package replace

import (
	"iter"
	"strings"

	"headgate/api"
)

// noGroup is the number of a piece that is a text.
const noGroup = -1

// Parse returns a template's pieces.
func Parse(text string) ([]api.Piece, api.Errno) {
	var l []api.Piece
	var plain []byte // what is behind the last group
next:
	if text == "" {
		return withText(l, plain), api.OK
	}
	group, c, size := first(text)
	if size == 0 {
		return nil, api.ErrTemplate
	}
	text = text[size:]
	if group == noGroup {
		plain = append(plain, c)
		goto next
	}
	l = append(withText(l, plain), api.Piece{N: group})
	plain = plain[:0]
	goto next
}

// withText adds the piece of some bytes, if there are any.
func withText(l []api.Piece, plain []byte) []api.Piece {
	if len(plain) == 0 {
		return l
	}
	return append(l, api.Piece{Text: string(plain), N: noGroup})
}

// first returns what a text begins with, a group or a byte, and how many bytes that takes: 0, if the text ends within it.
func first(text string) (group int, c byte, size int) {
	switch {
	case text[0] == '&':
		return 0, 0, 1
	case text[0] != '\\':
		return noGroup, text[0], 1
	case len(text) == 1:
		return noGroup, 0, 0
	}
	c = text[1]
	switch {
	case c >= '1' && c <= '9':
		return int(c - '0'), 0, 2
	case c == 'n':
		return noGroup, '\n', 2
	}
	return noGroup, c, 2
}

// Groups returns the greatest number of a group that pieces have.
func Groups(l []api.Piece) int {
	greatest := 0
	for _, p := range l {
		greatest = max(greatest, p.N)
	}
	return greatest
}

// Fill returns what pieces are, of a match.
func Fill(l []api.Piece, text string, m api.Match) string {
	var b strings.Builder
	for part := range filled(l, text, m) {
		b.WriteString(part)
	}
	return b.String()
}

// filled enumerates what pieces are, of a match, one by one: who has no room for all of it may stop early.
func filled(l []api.Piece, text string, m api.Match) iter.Seq[string] {
	return func(yield func(string) bool) {
		for _, p := range l {
			if !yield(pieceText(p, text, m)) {
				return
			}
		}
	}
}

// pieceText returns what a piece is, of a match.
func pieceText(p api.Piece, text string, m api.Match) string {
	switch {
	case p.N < 0:
		return p.Text
	case p.N < len(m):
		return covered(text, m[p.N])
	}
	return ""
}

// covered returns what a span covers in a text: nothing, if it is none of its spans.
func covered(text string, s api.Span) string {
	if s.From < 0 || s.From > s.To || s.To > len(text) {
		return ""
	}
	return text[s.From:s.To]
}
