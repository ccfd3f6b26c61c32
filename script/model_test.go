package script_test

import (
	"regexp"
	"slices"
	"strings"
	"sync"
	"testing"

	"headgate/api"
	"headgate/pattern"
	"headgate/place"
	"headgate/replace"
	"headgate/script"
)

// wide is a text with a rune for each of its bytes, and narrow takes that back: Go's library matches runes.
func wide(text string) string {
	var l []rune
	for _, c := range []byte(text) {
		l = append(l, rune(c))
	}
	return string(l)
}

func narrow(text string) string {
	var b []byte
	for _, c := range text {
		b = append(b, byte(c))
	}
	return string(b)
}

var expressions sync.Map

func compiled(expression string) *regexp.Regexp {
	if x, ok := expressions.Load(expression); ok {
		return x.(*regexp.Regexp)
	}
	x := regexp.MustCompile(expression)
	expressions.Store(expression, x)
	return x
}

// begins is what a text begins with by a pattern of Go's library, and what that names: nil, if it does not begin so.
func begins(text, expression string) []string {
	l := compiled(`\A(?:` + expression + `)`).FindStringSubmatch(wide(text))
	for k := range l {
		l[k] = narrow(l[k])
	}
	return l
}

// The grammar by the chapter's words, as patterns of Go's library.
const (
	gap       = `(?:[ \t\n;]|#[^\n]*)*`
	behind    = `[ \t]*(?:\z|[\n;}#])`
	blanks    = `[ \t]*`
	wordArg   = `[ \t]*([^\n;]*)(?:\z|[\n;])`
	restArg   = `[ \t]*([^\n]*)(?:\z|\n)`
	linesArg  = `[ \t]*\\\n((?:[^\\\n]|\\(?s:.))*)(?:\z|\n)`
	goodPath  = `\A[!-~]{1,32}\z`
	exchanges = `\A(?:[^\\]|\\\\|\\n)*\z`
)

// cutArg is what is cut up to a delimiter, which follows.
func cutArg(delim byte, lines bool) string {
	mark := regexp.QuoteMeta(wide(string([]byte{delim})))
	if lines {
		return `((?:[^\\\n` + mark + `]|\\(?s:.))*)` + mark
	}
	return `((?:[^\\\n` + mark + `]|\\[^\n])*)` + mark
}

// unguarded is a text without the \ ahead of delimiters.
func unguarded(text string, delim byte) string {
	return narrow(compiled(`\\(?s:.)`).ReplaceAllStringFunc(wide(text), func(two string) string {
		if c := narrow(two)[1]; c == delim {
			return wide(string([]byte{c}))
		}
		return two
	}))
}

// told is what the chapter's words say of a text.
type told struct {
	l []api.Command
	p complex128
	e api.Errno
}

// toldPlace is the place of the end of a text, counted by hand.
func toldPlace(text string) complex128 {
	lines := strings.Split(text, "\n")
	return complex(float64(len(lines)), float64(1+len(lines[len(lines)-1])))
}

// toldParse parses a text command by command.
func toldParse(text string, extended bool) told {
	if len(text) > 2000 {
		return told{e: api.ErrLimit}
	}
	var l []api.Command
	for at := 0; ; {
		at += len(begins(text[at:], gap)[0])
		if at == len(text) {
			return told{l: l}
		}
		if len(l) == 200 {
			return told{e: api.ErrLimit}
		}
		c, size, ok := toldCommand(text[at:], extended)
		c.Place = toldPlace(text[:at])
		if !ok || c.Name != '{' && begins(text[at+size:], behind) == nil {
			return told{p: c.Place, e: api.ErrScript}
		}
		l = append(l, c)
		at += size
	}
}

// mostAddresses is how many addresses a letter may have: -1, if it is none.
func mostAddresses(name byte) int {
	for most, letters := range []string{"}:", "=qair", "{dDgGhHlnNpPxcbtwsy"} {
		if strings.IndexByte(letters, name) >= 0 {
			return most
		}
	}
	return -1
}

// toldCommand is the command that a text begins with, and its length.
func toldCommand(text string, extended bool) (api.Command, int, bool) {
	var c api.Command
	rest, addresses := text, 0
	if a, size, ok := toldAddress(rest, extended); ok {
		c.From, rest, addresses = a, rest[size:], 1
		if comma := begins(rest, `,`+blanks); comma != nil {
			rest = rest[len(comma[0]):]
			if a, size, ok = toldAddress(rest, extended); !ok {
				return c, 0, false
			}
			c.To, rest, addresses = a, rest[size:], 2
		}
	}
	not := begins(rest, `[ \t!]*`)[0]
	c.Not, rest = strings.Contains(not, "!"), rest[len(not):]
	if rest == "" || addresses > mostAddresses(rest[0]) {
		return c, 0, false
	}
	c.Name, rest = rest[0], rest[1:]
	size, ok := toldArguments(&c, rest, extended)
	return c, len(text) - len(rest) + size, ok
}

// toldAddress is the address that a text begins with, and its length with the blanks behind it.
func toldAddress(text string, extended bool) (api.Address, int, bool) {
	if l := begins(text, `([0-9]+)`+blanks); l != nil {
		n := 0
		for _, c := range []byte(l[1]) {
			n = 10*n + int(c-'0')
		}
		return api.Address{Kind: api.Line, Line: n}, len(l[0]), n > 0 && len(l[1]) <= 9
	}
	if l := begins(text, `\$`+blanks); l != nil {
		return api.Address{Kind: api.Last}, len(l[0]), true
	}
	delim, from := byte('/'), 1
	if strings.HasPrefix(text, `\`) && len(text) > 1 {
		delim, from = text[1], 2
	} else if !strings.HasPrefix(text, "/") {
		return api.Address{}, 0, false
	}
	n, again, size, ok := toldPattern(text[from:], delim, extended)
	if !ok {
		return api.Address{}, 0, false
	}
	size += from
	size += len(begins(text[size:], blanks)[0])
	if again {
		return api.Address{Kind: api.Again}, size, true
	}
	return api.Address{Kind: api.Pattern, Pattern: n}, size, true
}

// toldPattern is the pattern up to a delimiter, whether it is empty, and the length of both.
func toldPattern(text string, delim byte, extended bool) (n api.Node, again bool, size int, ok bool) {
	if delim == '\\' || delim == '\n' {
		return n, false, 0, false
	}
	l := begins(text, cutArg(delim, false))
	if l == nil {
		return n, false, 0, false
	}
	if l[1] == "" {
		return n, true, len(l[0]), true
	}
	n, e := pattern.Parse(unguarded(l[1], delim), extended)
	return n, false, len(l[0]), e == api.OK
}

// toldArguments are the arguments of a letter, and their length.
func toldArguments(c *api.Command, text string, extended bool) (int, bool) {
	ended := func(l []string, kept *string) (int, bool) {
		*kept = strings.TrimRight(l[1], " \t")
		return strings.Index(l[0], l[1]) + len(l[1]), true
	}
	switch {
	case strings.IndexByte("aic", c.Name) >= 0:
		l := begins(text, linesArg)
		if l == nil {
			return 0, false
		}
		c.Text = narrow(compiled(`\\((?s:.))`).ReplaceAllString(wide(l[1]), "$1")) + "\n"
		return strings.Index(l[0], "\n") + 1 + len(l[1]), true
	case strings.IndexByte(":bt", c.Name) >= 0:
		size, ok := ended(begins(text, wordArg), &c.Text)
		return size, ok && (c.Name != ':' || c.Text != "")
	case strings.IndexByte("rw", c.Name) >= 0:
		size, ok := ended(begins(text, restArg), &c.Text)
		return size, ok && compiled(goodPath).MatchString(wide(c.Text))
	case c.Name == 's':
		return toldSubstitution(c, text, extended)
	case c.Name == 'y':
		return toldExchange(c, text)
	}
	return 0, true
}

func toldSubstitution(c *api.Command, text string, extended bool) (int, bool) {
	if text == "" {
		return 0, false
	}
	delim := text[0]
	n, again, size, ok := toldPattern(text[1:], delim, extended)
	if !ok {
		return 0, false
	}
	size++
	l := begins(text[size:], cutArg(delim, true))
	if l == nil {
		return 0, false
	}
	pieces, e := replace.Parse(unguarded(l[1], delim))
	if e != api.OK {
		return 0, false
	}
	for _, p := range pieces {
		if !again && p.N > toldGroups(n) {
			return 0, false
		}
	}
	c.Pattern, c.Again, c.Template, c.Count = n, again, pieces, 1
	size += len(l[0])
	more, ok := toldFlags(c, text[size:])
	return size + more, ok
}

func toldGroups(n api.Node) int {
	most := n.Number
	for _, kid := range n.Kids {
		most = max(most, toldGroups(kid))
	}
	return most
}

// toldFlags are the flags of s: what they are without the others, which may not be there twice.
func toldFlags(c *api.Command, text string) (int, bool) {
	l := begins(text, `([gp0-9]*)(w?)`)
	flags, size := l[1], len(l[0])
	c.Global, c.Print = strings.Contains(flags, "g"), strings.Contains(flags, "p")
	numbers := compiled(`[0-9]+`).FindAllString(flags, -1)
	if strings.Count(flags, "g") > 1 || strings.Count(flags, "p") > 1 || len(numbers) > 1 {
		return 0, false
	}
	for _, digits := range numbers {
		if len(digits) > 9 || strings.Trim(digits, "0") == "" {
			return 0, false
		}
		c.Count = 0
		for _, d := range []byte(digits) {
			c.Count = 10*c.Count + int(d-'0')
		}
	}
	if l[2] == "" {
		return size, true
	}
	file := begins(text[size:], restArg)
	c.File = strings.TrimRight(file[1], " \t")
	return size + strings.Index(file[0], file[1]) + len(file[1]), compiled(goodPath).MatchString(wide(c.File))
}

func toldExchange(c *api.Command, text string) (int, bool) {
	if text == "" || text[0] == '\\' || text[0] == '\n' {
		return 0, false
	}
	delim := text[0]
	l := begins(text[1:], cutArg(delim, false)+cutArg(delim, false))
	if l == nil {
		return 0, false
	}
	for k, kept := range []*string{&c.Text, &c.Other} {
		s := unguarded(l[1+k], delim)
		if !compiled(exchanges).MatchString(wide(s)) {
			return 0, false
		}
		*kept = strings.NewReplacer(`\\`, `\`, `\n`, "\n").Replace(s)
	}
	given := map[byte]int{}
	for _, b := range []byte(c.Text) {
		given[b]++
	}
	return 1 + len(l[0]), len(c.Text) == len(c.Other) && len(given) == len(c.Text)
}

func sameNode(a, b api.Node) bool {
	return a.Kind == b.Kind && a.Set == b.Set && a.Min == b.Min && a.Max == b.Max && a.Number == b.Number && slices.EqualFunc(a.Kids, b.Kids, sameNode)
}

func sameAddress(a, b api.Address) bool {
	return a.Kind == b.Kind && a.Line == b.Line && sameNode(a.Pattern, b.Pattern)
}

func sameCommand(a, b api.Command) bool {
	return a.Place == b.Place && a.Name == b.Name && sameAddress(a.From, b.From) && sameAddress(a.To, b.To) && a.Not == b.Not && a.Text == b.Text && a.Other == b.Other && sameNode(a.Pattern, b.Pattern) && a.Again == b.Again && slices.Equal(a.Template, b.Template) && a.Global == b.Global && a.Print == b.Print && a.Count == b.Count && a.File == b.File
}

func short(text string) string {
	if len(text) > 300 {
		return text[:300] + " and so on"
	}
	return text
}

// check holds what Parse answers against what it should.
func check(t testing.TB, text string, extended bool, want told) {
	t.Helper()
	l, p, e := script.Parse(text, extended)
	if e != want.e || p != want.p || len(l) != len(want.l) {
		t.Fatalf("Parse(%q, %v): %d commands, %s, %v; want %d, %s, %v", short(text), extended, len(l), place.Text(p), e, len(want.l), place.Text(want.p), want.e)
	}
	for k := range l {
		if !sameCommand(l[k], want.l[k]) {
			t.Fatalf("Parse(%q, %v): command %d is\n%+v; want\n%+v", short(text), extended, k, l[k], want.l[k])
		}
	}
}

// checkTold holds what Parse answers against the chapter's words, and tells whether the text is a script.
func checkTold(t testing.TB, text string, extended bool) bool {
	t.Helper()
	want := toldParse(text, extended)
	check(t, text, extended, want)
	return want.e == api.OK
}

// checkCommands holds the commands of a script against those that it has.
func checkCommands(t testing.TB, text string, extended bool, l ...api.Command) {
	t.Helper()
	check(t, text, extended, told{l: l})
}

// checkWrong says that a text is no script, and where.
func checkWrong(t testing.TB, text string, extended bool, p complex128) {
	t.Helper()
	check(t, text, extended, told{p: p, e: api.ErrScript})
}
