package replace_test

import (
	"strings"
	"testing"

	"headgate/api"
	"headgate/match"
	"headgate/replace"
)

// elements are what a template says, each group and each byte by itself, by the chapter's words.
func elements(text string) ([]api.Piece, bool) {
	if text == "" {
		return nil, true
	}
	p, size := plain(text[:1]), 1
	switch {
	case text[0] == '&':
		p = api.Piece{N: 0}
	case text == "\\":
		return nil, false
	case text[0] == '\\':
		size = 2
		p = plain(text[1:2])
		if k := strings.Index("123456789", text[1:2]); k >= 0 {
			p = api.Piece{N: k + 1}
		}
		if text[1] == 'n' {
			p = plain("\n")
		}
	}
	rest, ok := elements(text[size:])
	return append([]api.Piece{p}, rest...), ok
}

// merged are pieces, of which those that are texts and stand one behind the other are one.
func merged(l []api.Piece) []api.Piece {
	var all []api.Piece
	for _, p := range l {
		if last := len(all) - 1; p.N < 0 && last >= 0 && all[last].N < 0 {
			all[last].Text += p.Text
			continue
		}
		all = append(all, p)
	}
	return all
}

func plain(text string) api.Piece {
	return api.Piece{Text: text, N: -1}
}

// samePieces tells whether two lists have the same pieces.
func samePieces(a, b []api.Piece) bool {
	if len(a) != len(b) {
		return false
	}
	for k := range a {
		if a[k] != b[k] {
			return false
		}
	}
	return true
}

// fill is what Fill answers by the chapter's words.
func fill(l []api.Piece, text string, m api.Match) string {
	s := ""
	for _, p := range l {
		if p.N < 0 {
			s += p.Text
		}
		if p.N >= 0 && p.N <= 9 {
			if x := m[p.N]; 0 <= x.From && x.From <= x.To && x.To <= len(text) {
				s += text[x.From:x.To]
			}
		}
	}
	return s
}

// search returns the first match from an index on.
type search func(from int) (api.Match, bool)

// tried is a search that tries every span by itself.
func tried(n api.Node, text string) search {
	return func(from int) (api.Match, bool) {
		for i := from; i <= len(text); i++ {
			for j := len(text); j >= i; j-- {
				if match.Is(n, text, i, j, true) {
					m, _ := match.Find(n, text, i, true)
					m[0] = api.Span{From: i, To: j}
					return m, true
				}
			}
		}
		return api.Match{}, false
	}
}

// found is a search by Find alone, for longer texts.
func found(n api.Node, text string) search {
	return func(from int) (api.Match, bool) { return match.Find(n, text, from, true) }
}

// all are the matches that a search leads to, by the chapter's words.
func all(next search) []api.Match {
	var l []api.Match
	m, ok := next(0)
	for ok {
		counts := true
		if previous := len(l) - 1; previous >= 0 && m[0].From == m[0].To {
			before := l[previous][0]
			counts = before.From == before.To || before.To != m[0].From
		}
		if counts {
			l = append(l, m)
		}
		if m[0].From < m[0].To {
			m, ok = next(m[0].To)
		} else {
			m, ok = next(m[0].To + 1)
		}
	}
	return l
}

// answer is what Replace answers.
type answer struct {
	text  string
	count int
	e     api.Errno
}

// told is what Replace answers of a text and its matches by the chapter's words.
func told(matches []api.Match, l []api.Piece, text string, count int, global bool) answer {
	if count < 1 {
		return answer{e: api.ErrArg}
	}
	if len(text) > 1024 {
		return answer{e: api.ErrSpace}
	}
	s, k := text, 0
	// The last one first, so that the indexes of those ahead of it hold.
	for i := len(matches) - 1; i >= 0; i-- {
		if i+1 == count || i+1 > count && global {
			whole := matches[i][0]
			s = s[:whole.From] + fill(l, text, matches[i]) + s[whole.To:]
			k++
		}
	}
	if len(s) > 1024 {
		return answer{e: api.ErrSpace}
	}
	return answer{s, k, api.OK}
}

func asked(n api.Node, l []api.Piece, text string, count int, global bool) answer {
	s, k, e := replace.Replace(n, l, text, count, global)
	return answer{s, k, e}
}

func short(text string) string {
	if len(text) > 240 {
		return text[:240] + " and so on"
	}
	return text
}

func checkReplace(t testing.TB, n api.Node, l []api.Piece, text string, count int, global bool, want answer) {
	t.Helper()
	if a := asked(n, l, text, count, global); a != want {
		t.Fatalf("Replace(%v, %v, %q, %d, %v): %q, %d, %v; want %q, %d, %v", n, l, short(text), count, global, short(a.text), a.count, a.e, short(want.text), want.count, want.e)
	}
}

// checkTold holds all answers about a pattern, a template and a text against the chapter's words.
func checkTold(t testing.TB, n api.Node, l []api.Piece, text string) {
	t.Helper()
	matches := all(tried(n, text))
	for count := -1; count <= len(matches)+2; count++ {
		checkReplace(t, n, l, text, count, false, told(matches, l, text, count, false))
		checkReplace(t, n, l, text, count, true, told(matches, l, text, count, true))
	}
}

func checkParse(t testing.TB, text string, want []api.Piece, is api.Errno) {
	t.Helper()
	if l, e := replace.Parse(text); e != is || !samePieces(l, want) {
		t.Fatalf("Parse(%q): %v, %v; want %v, %v", short(text), l, e, want, is)
	}
}

func checkFill(t testing.TB, l []api.Piece, text string, m api.Match, want string) {
	t.Helper()
	if s := replace.Fill(l, text, m); s != want {
		t.Fatalf("Fill(%v, %q, %v): %q; want %q", l, short(text), m, short(s), short(want))
	}
}
