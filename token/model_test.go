package token_test

import (
	"strconv"
	"strings"
	"testing"

	"headgate/api"
	"headgate/token"
)

// number is what Number answers.
type number struct {
	n, at int
	ok    bool
}

// extent is what Word and Rest answer.
type extent struct {
	text string
	at   int
}

// cutting is what Cut and Lines answer.
type cutting struct {
	text string
	at   int
	e    api.Errno
}

// inside tells whether at is an index of a text.
func inside(text string, at int) bool {
	return 0 <= at && at <= len(text)
}

// The answers by the chapter's words, told from the bytes around each byte, and not one byte behind the other.

func toldBlanks(text string, at int) int {
	if !inside(text, at) {
		return at
	}
	return len(text) - len(strings.TrimLeft(text[at:], " \t"))
}

func toldNumber(text string, at int) number {
	if inside(text, at) {
		size := len(text) - at - len(strings.TrimLeft(text[at:], "0123456789"))
		if size >= 1 && size <= 9 {
			n, _ := strconv.Atoi(text[at : at+size])
			return number{n, at + size, true}
		}
	}
	return number{0, at, false}
}

// stands tells whether the byte at an index stands behind a \ that begins something: an odd number of them is directly ahead of it, from some index on.
func stands(text string, from, at int) bool {
	ahead := text[from:at]
	return (len(ahead)-len(strings.TrimRight(ahead, `\`)))%2 == 1
}

// firstFree is the first index from one on with a certain byte that no \ is ahead of, or -1.
func firstFree(text string, from int, c byte) int {
	for at := from; at < len(text); at++ {
		if text[at] == c && !stands(text, from, at) {
			return at
		}
	}
	return -1
}

// without is a text without those \ that begin something, if they are ahead of a byte that is dropped for.
func without(text string, dropped func(c byte) bool) string {
	s := ""
	for at := range len(text) {
		if text[at] == '\\' && !stands(text, 0, at) && at+1 < len(text) && dropped(text[at+1]) {
			continue
		}
		s += text[at : at+1]
	}
	return s
}

func toldCut(text string, at int, delim byte, lines bool) cutting {
	if !inside(text, at) || delim == '\n' || delim == '\\' {
		return cutting{e: api.ErrToken}
	}
	end := firstFree(text, at, delim)
	if end < 0 {
		return cutting{e: api.ErrToken}
	}
	s := text[at:end]
	if firstFree(s, 0, '\n') >= 0 || !lines && strings.Contains(s, "\n") {
		return cutting{e: api.ErrToken}
	}
	return cutting{without(s, func(c byte) bool { return c == delim }), end + 1, api.OK}
}

func toldUpTo(text string, at int, ends string) extent {
	if !inside(text, at) {
		return extent{"", at}
	}
	s := text[at:]
	if k := strings.IndexAny(s, ends); k >= 0 {
		s = s[:k]
	}
	return extent{strings.Trim(s, " \t"), at + len(s)}
}

func toldLines(text string, at int) cutting {
	if !inside(text, at) {
		return cutting{e: api.ErrToken}
	}
	s, ok := strings.CutPrefix(strings.TrimLeft(text[at:], " \t"), "\\\n")
	if !ok {
		return cutting{e: api.ErrToken}
	}
	from := len(text) - len(s)
	if k := firstFree(s, 0, '\n'); k >= 0 {
		s = s[:k]
	} else if stands(s, 0, len(s)) {
		return cutting{e: api.ErrToken}
	}
	return cutting{without(s, func(byte) bool { return true }) + "\n", from + len(s), api.OK}
}

func short(text string) string {
	if len(text) > 240 {
		return text[:240] + " and so on"
	}
	return text
}

func checkBlanks(t testing.TB, text string, at, want int) {
	t.Helper()
	if n := token.Blanks(text, at); n != want {
		t.Fatalf("Blanks(%q, %d): %d; want %d", short(text), at, n, want)
	}
}

func checkNumber(t testing.TB, text string, at int, want number) {
	t.Helper()
	n, to, ok := token.Number(text, at)
	if got := (number{n, to, ok}); got != want {
		t.Fatalf("Number(%q, %d): %v; want %v", short(text), at, got, want)
	}
}

func checkCut(t testing.TB, text string, at int, delim byte, lines bool, want cutting) {
	t.Helper()
	s, to, e := token.Cut(text, at, delim, lines)
	if s != want.text || to != want.at || e != want.e {
		t.Fatalf("Cut(%q, %d, %q, %v): %q, %d, %v; want %q, %d, %v", short(text), at, delim, lines, short(s), to, e, short(want.text), want.at, want.e)
	}
}

func checkWord(t testing.TB, text string, at int, want extent) {
	t.Helper()
	if s, to := token.Word(text, at); s != want.text || to != want.at {
		t.Fatalf("Word(%q, %d): %q, %d; want %q, %d", short(text), at, short(s), to, short(want.text), want.at)
	}
}

func checkRest(t testing.TB, text string, at int, want extent) {
	t.Helper()
	if s, to := token.Rest(text, at); s != want.text || to != want.at {
		t.Fatalf("Rest(%q, %d): %q, %d; want %q, %d", short(text), at, short(s), to, short(want.text), want.at)
	}
}

func checkLines(t testing.TB, text string, at int, want cutting) {
	t.Helper()
	s, to, e := token.Lines(text, at)
	if s != want.text || to != want.at || e != want.e {
		t.Fatalf("Lines(%q, %d): %q, %d, %v; want %q, %d, %v", short(text), at, short(s), to, e, short(want.text), want.at, want.e)
	}
}

// checkTold holds the answers of all calls about an index of a text against the chapter's words.
func checkTold(t testing.TB, text string, at int, delims string) {
	t.Helper()
	checkBlanks(t, text, at, toldBlanks(text, at))
	checkNumber(t, text, at, toldNumber(text, at))
	checkWord(t, text, at, toldUpTo(text, at, "\n;"))
	checkRest(t, text, at, toldUpTo(text, at, "\n"))
	checkLines(t, text, at, toldLines(text, at))
	for k := range len(delims) {
		checkCut(t, text, at, delims[k], false, toldCut(text, at, delims[k], false))
		checkCut(t, text, at, delims[k], true, toldCut(text, at, delims[k], true))
	}
}
