package space_test

import (
	"slices"
	"strconv"
	"strings"
	"testing"

	"headgate/api"
	"headgate/space"
)

// joined is what Append answers.
type joined struct {
	s string
	e api.Errno
}

// divided is what First answers.
type divided struct {
	first, rest string
	has         bool
}

// The answers by the chapter's words, told from the place of each byte, and from the parts of what is shown.

func toldAppend(a, b string) joined {
	s := strings.Join([]string{a, b}, string([]byte{10}))
	if len(s) >= 1025 {
		return joined{"", api.ErrSpace}
	}
	return joined{s, api.OK}
}

func toldFirst(s string) divided {
	for k := range len(s) {
		if s[k] == 10 {
			return divided{s[:k], s[k+1:], true}
		}
	}
	return divided{s, "", false}
}

func toldChange(s, from, to string) string {
	var b []byte
	for k := range len(s) {
		c := s[k]
		for i := range len(from) {
			if from[i] == c {
				if i < len(to) {
					c = to[i]
				}
				break
			}
		}
		b = append(b, c)
	}
	return string(b)
}

// toldShown is what a byte is shown as.
func toldShown(c byte) string {
	if k := slices.Index([]byte{7, 8, 9, 10, 11, 12, 13, 92}, c); k >= 0 {
		return []string{`\a`, `\b`, `\t`, `\n`, `\v`, `\f`, `\r`, `\\`}[k]
	}
	if c >= 32 && c <= 126 {
		return string([]byte{c})
	}
	digits := "00" + strconv.FormatInt(int64(c), 8)
	return `\` + digits[len(digits)-3:]
}

// toldList takes for each row as many of the shown bytes as go into it.
func toldList(s string) string {
	var parts, rows []string
	for k := range len(s) {
		parts = append(parts, toldShown(s[k]))
	}
	for len(parts) > 0 {
		n := len(parts)
		for len(strings.Join(parts[:n], "")) > 69 {
			n = min(n-1, 69)
		}
		rows = append(rows, strings.Join(parts[:n], ""))
		parts = parts[n:]
	}
	return strings.Join(rows, "\\\n") + "$\n"
}

func toldLines(s string) []string {
	l := strings.Split(s, "\n")
	if l[len(l)-1] == "" {
		l = l[:len(l)-1]
	}
	return l
}

// unlisted is the text that is displayed in some way: P16.2 holds as long as there is a way back.
func unlisted(t testing.TB, list string) string {
	t.Helper()
	s, ok := strings.CutSuffix(list, "$\n")
	if !ok {
		t.Fatalf("%q ends otherwise", list)
	}
	var b []byte
	for s != "" {
		if s[0] != '\\' {
			b, s = append(b, s[0]), s[1:]
			continue
		}
		if k := strings.IndexByte(`abtnvfr\`, s[1]); k >= 0 {
			b, s = append(b, "\a\b\t\n\v\f\r\\"[k]), s[2:]
			continue
		}
		if s[1] == '\n' {
			s = s[2:]
			continue
		}
		c, err := strconv.ParseUint(s[1:4], 8, 8)
		if err != nil {
			t.Fatalf("%q has a \\ that means nothing", list)
		}
		b, s = append(b, byte(c)), s[4:]
	}
	return string(b)
}

// checkRows looks at a display alone: at its rows, and at the bytes of which it consists.
func checkRows(t testing.TB, list string) {
	t.Helper()
	rows := strings.SplitAfter(list, "\n")
	if rows[len(rows)-1] != "" {
		t.Fatalf("%q does not end with a line feed", list)
	}
	rows = rows[:len(rows)-1]
	for k, row := range rows {
		end := "\\\n"
		if k == len(rows)-1 {
			end = "$\n"
		}
		// A byte that is shown as four leaves at most three bytes of a row.
		if !strings.HasSuffix(row, end) || len(row) > 71 || k < len(rows)-1 && len(row) < 68 {
			t.Fatalf("%q is a row of %q", row, list)
		}
	}
	for k := range len(list) {
		if c := list[k]; c != '\n' && (c < 32 || c > 126) {
			t.Fatalf("%q shows the byte %d as it is", list, c)
		}
	}
}

// checkPair holds Append, and First of what it answers, against the chapter's words.
func checkPair(t testing.TB, a, b string) {
	t.Helper()
	s, e := space.Append(a, b)
	if want := toldAppend(a, b); s != want.s || e != want.e {
		t.Fatalf("Append(%q, %q): %q, %v; want %q, %v", a, b, s, e, want.s, want.e)
	}
	if e != api.OK {
		return
	}
	first, rest, has := space.First(s)
	if strings.Contains(a, "\n") {
		a, b = toldFirst(a).first, toldFirst(a).rest+"\n"+b
	}
	if first != a || rest != b || !has {
		t.Fatalf("First(%q): %q, %q, %v", s, first, rest, has)
	}
}

// checkText holds First, List and Lines against the chapter's words.
func checkText(t testing.TB, s string) {
	t.Helper()
	first, rest, has := space.First(s)
	if want := toldFirst(s); want != (divided{first, rest, has}) {
		t.Fatalf("First(%q): %q, %q, %v", s, first, rest, has)
	}
	list := space.List(s)
	if list != toldList(s) {
		t.Fatalf("List(%q): %q; want %q", s, list, toldList(s))
	}
	if back := unlisted(t, list); back != s {
		t.Fatalf("List(%q) is %q, which is %q too", s, list, back)
	}
	checkRows(t, list)
	if l := space.Lines(s); !slices.Equal(l, toldLines(s)) {
		t.Fatalf("Lines(%q): %q", s, l)
	}
}

func checkChange(t testing.TB, s, from, to string) {
	t.Helper()
	if got := space.Change(s, from, to); got != toldChange(s, from, to) {
		t.Fatalf("Change(%q, %q, %q): %q; want %q", s, from, to, got, toldChange(s, from, to))
	}
}
