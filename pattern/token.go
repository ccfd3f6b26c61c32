package pattern

import (
	"strings"

	"headgate/api"
	"headgate/class"
)

// kind is a token's.
type kind int

const (
	none  kind = iota // there is no token
	one               // one byte of a set
	begin             // the beginning of a line
	end               // the end of a line
	open              // a group begins
	shut              // a group ends
	bar               // another row follows
	times             // what is ahead is repeated
)

// token is what means one thing in a pattern, however its syntax writes it.
type token struct {
	kind        kind
	set         api.Set // of one
	least, most int     // of times
}

// unlimited is the greatest number of times where there is no greatest.
const unlimited = -1

// maxDigits is how many digits a number of times may have.
const maxDigits = 3

// The bytes that may stand behind a \ to mean themselves: in every pattern, and in extended ones.
const (
	escapes         = `.[]\*^$/`
	extendedEscapes = escapes + "()|+?{}"
)

// tokens splits a pattern, and tells whether all of it is tokens.
func tokens(text string, extended bool) ([]token, bool) {
	var l []token
	// What holds at the beginning of a group holds at that of the pattern.
	ahead := open
next:
	if text == "" {
		return l, true
	}
	t, size := first(text, extended, ahead)
	if t.kind == none {
		return nil, false
	}
	l, ahead, text = append(l, t), t.kind, text[size:]
	goto next
}

// first returns the token that a text begins with behind one of a kind, and its length: none, if it begins with no token.
func first(text string, extended bool, ahead kind) (token, int) {
	if extended {
		return extendedToken(text)
	}
	return basicToken(text, ahead)
}

func extendedToken(text string) (token, int) {
	switch text[0] {
	case '.':
		return anyByte(), 1
	case '[':
		return bracket(text)
	case '\\':
		return escaped(text, extendedEscapes)
	case '^':
		return token{kind: begin}, 1
	case '$':
		return token{kind: end}, 1
	case '(':
		return token{kind: open}, 1
	case ')':
		return token{kind: shut}, 1
	case '|':
		return token{kind: bar}, 1
	case '*':
		return repetition(0, unlimited), 1
	case '+':
		return repetition(1, unlimited), 1
	case '?':
		return repetition(0, 1), 1
	case '{':
		return interval(text, "{", "}")
	}
	return itself(text[0]), 1
}

func basicToken(text string, ahead kind) (token, int) {
	switch text[0] {
	case '.':
		return anyByte(), 1
	case '[':
		return bracket(text)
	case '\\':
		return basicEscape(text)
	case '^':
		if ahead == open {
			return token{kind: begin}, 1
		}
	case '$':
		if text == "$" || strings.HasPrefix(text, `$\)`) {
			return token{kind: end}, 1
		}
	case '*':
		if ahead != open && ahead != begin {
			return repetition(0, unlimited), 1
		}
	}
	return itself(text[0]), 1
}

// basicEscape returns the token that a \ begins in a basic pattern.
func basicEscape(text string) (token, int) {
	switch {
	case strings.HasPrefix(text, `\(`):
		return token{kind: open}, 2
	case strings.HasPrefix(text, `\)`):
		return token{kind: shut}, 2
	case strings.HasPrefix(text, `\{`):
		return interval(text, `\{`, `\}`)
	}
	return escaped(text, escapes)
}

// escaped returns the byte that a \ and the one behind it mean, if that is n or one of those that mean themselves.
func escaped(text, themselves string) (token, int) {
	if len(text) < 2 {
		return token{}, 0
	}
	c := text[1]
	if c == 'n' {
		return itself('\n'), 2
	}
	if strings.IndexByte(themselves, c) < 0 {
		return token{}, 0
	}
	return itself(c), 2
}

// bracket returns the set of the bracket expression behind a [.
func bracket(text string) (token, int) {
	s, size, e := class.Bracket(text[1:])
	if e != api.OK {
		return token{}, 0
	}
	return token{kind: one, set: s}, 1 + size
}

// interval returns the times that stand between the marks of an interval's beginning and end.
func interval(text, from, to string) (token, int) {
	inside, _, ended := strings.Cut(text[len(from):], to)
	low, high, comma := strings.Cut(inside, ",")
	least, isLow := number(low)
	most, isHigh := number(high)
	switch {
	case !ended || !isLow:
		return token{}, 0
	case !comma:
		most = least
	case high == "":
		most = unlimited
	case !isHigh || most < least:
		return token{}, 0
	}
	return repetition(least, most), len(from) + len(inside) + len(to)
}

// number returns the number that a text is, if it is one that an interval may have.
func number(text string) (int, bool) {
	if text == "" || len(text) > maxDigits {
		return 0, false
	}
	n := 0
	for _, c := range []byte(text) {
		if c < '0' || c > '9' {
			return 0, false
		}
		n = 10*n + int(c-'0')
	}
	return n, n <= api.MaxRepeat
}

func anyByte() token {
	return token{kind: one, set: class.Not(api.Set{})}
}

func itself(c byte) token {
	return token{kind: one, set: class.With(api.Set{}, c, c)}
}

func repetition(least, most int) token {
	return token{kind: times, least: least, most: most}
}
