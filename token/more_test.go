package token_test

import (
	"math"
	"regexp"
	"strings"
	"sync"
	"testing"

	"headgate/api"
	"headgate/token"
)

// numbers is a source of numbers that are the same each time.
type numbers struct{ x uint64 }

func (r *numbers) below(n int) int {
	r.x ^= r.x << 13
	r.x ^= r.x >> 7
	r.x ^= r.x << 17
	return int(r.x >> 33 % uint64(n))
}

func numbersOf(seed int) *numbers {
	return &numbers{uint64(seed)*0x9e3779b97f4a7c15 + 1}
}

// text is one of n bytes of an alphabet.
func (r *numbers) text(n int, alphabet string) string {
	b := make([]byte, n)
	for i := range b {
		b[i] = alphabet[r.below(len(alphabet))]
	}
	return string(b)
}

// everyByte is an alphabet of all bytes.
func everyByte() string {
	b := make([]byte, 256)
	for c := range b {
		b[c] = byte(c)
	}
	return string(b)
}

// alphabet is an arbitrary one: a few bytes that mean much, or all there are.
func (r *numbers) alphabet() string {
	return []string{"/\\a", "/\\\n", "a \t;\n", " \t\\\n\\\nab", "0123456789", "0019;x", "/\\\n;, \t", "\x00\\\n/", "\xff\x80\\\n", everyByte()}[r.below(10)]
}

// parts is a text that is joined from what means something.
func (r *numbers) parts() string {
	l := []string{"a", "b", "/", ",", `\`, `\\`, `\/`, `\,`, "\n", "\\\n", " ", "\t", " \t ", ";", "0", "7", "12", "123456789", "000", "p;", "}", "#", "s/a/b/", " \\\n", "\x00", "\x80", "\xff", "\\\x00"}
	text := ""
	for range r.below(12) {
		text += l[r.below(len(l))]
	}
	return text
}

// place is an arbitrary one of a text: mostly an index.
func (r *numbers) place(size int) int {
	switch r.below(12) {
	case 0:
		return []int{math.MinInt, math.MaxInt, -1, size + 1, -r.below(100), size + r.below(100), math.MaxInt - r.below(20), math.MinInt + r.below(20)}[r.below(8)]
	case 1, 2, 3:
		return 0
	}
	return r.below(size + 1)
}

// Every short text, every place in and around it, and every delimiter of it, held against the chapter's words.
func TestShortTexts(t *testing.T) {
	for _, c := range []struct {
		alphabet string
		size     int
	}{{"/\\\na", 7}, {"\\\n ;", 6}, {" \t;\nx", 6}, {"\\/,\nn ", 5}, {"09x", 8}, {"\\\n\x00\xff", 6}} {
		list := []string{""}
		for k := 0; k < len(list); k++ {
			text := list[k]
			for at := -1; at <= len(text)+1; at++ {
				checkTold(t, text, at, c.alphabet)
			}
			for i := range len(c.alphabet) {
				if len(text) < c.size {
					list = append(list, text+c.alphabet[i:i+1])
				}
			}
		}
	}
}

func TestArbitraryTexts(t *testing.T) {
	cut, lines, words := 0, 0, 0
	for seed := range 100000 {
		r := numbersOf(seed)
		text := r.parts()
		if seed%2 == 0 {
			text = r.text(r.below(30), r.alphabet())
		}
		at := r.place(len(text))
		checkTold(t, text, at, "/,\\\n"+r.text(2, everyByte()))
		if toldCut(text, at, '/', true).e == api.OK {
			cut++
		}
		if toldLines(text, at).e == api.OK {
			lines++
		}
		if toldUpTo(text, at, "\n;").text != "" {
			words++
		}
	}
	if cut < 10000 || lines < 2000 || words < 20000 {
		t.Errorf("only %d were cut, %d were lines, %d had words", cut, lines, words)
	}
}

// wide is a text with a rune for each of its bytes, and narrow takes that back.
func wide(text string) string {
	var l []rune
	for _, c := range []byte(text) {
		l = append(l, rune(c))
	}
	return string(l)
}

func narrow(text string) string {
	var b []byte
	for _, c := range text {
		b = append(b, byte(c))
	}
	return string(b)
}

// matchedCut is what Cut answers from index 0 on, as a pattern of Go's library.
func matchedCut(text string, delim byte, lines bool) cutting {
	mark, behind := wide(string([]byte{delim})), `[^\n]`
	if lines {
		behind = `(?s:.)`
	}
	quoted := regexp.QuoteMeta(mark)
	l := regexp.MustCompile(`^((?:[^\\\n` + quoted + `]|\\` + behind + `)*)` + quoted).FindStringSubmatch(wide(text))
	if l == nil {
		return cutting{e: api.ErrToken}
	}
	s := regexp.MustCompile(`\\(?s:.)`).ReplaceAllStringFunc(l[1], func(two string) string {
		if two == `\`+mark {
			return mark
		}
		return two
	})
	return cutting{narrow(s), len(narrow(l[0])), api.OK}
}

// matchedLines is what Lines answers from index 0 on, in the same way.
func matchedLines(text string) cutting {
	l := regexp.MustCompile(`^([ \t]*\\\n)((?:[^\\\n]|\\(?s:.))*)(?:\n|$)`).FindStringSubmatch(wide(text))
	if l == nil {
		return cutting{e: api.ErrToken}
	}
	s := regexp.MustCompile(`\\((?s:.))`).ReplaceAllString(l[2], "$1")
	return cutting{narrow(s) + "\n", len(narrow(l[1] + l[2])), api.OK}
}

// What is cut, and what are lines, as patterns of Go's library.
func TestAgainstLibrary(t *testing.T) {
	matched := 0
	for seed := range 20000 {
		r := numbersOf(seed)
		text, delim := r.parts(), "/,;a\x00\x80\xff7"[r.below(8)]
		if seed%2 == 0 {
			text = r.text(r.below(30), r.alphabet())
		}
		answers := []cutting{matchedCut(text, delim, false), matchedCut(text, delim, true), matchedLines(text)}
		checkCut(t, text, 0, delim, false, answers[0])
		checkCut(t, text, 0, delim, true, answers[1])
		checkLines(t, text, 0, answers[2])
		for _, a := range answers {
			if a.e == api.OK {
				matched++
			}
		}
	}
	if matched < 6000 {
		t.Errorf("only %d were matched", matched)
	}
}

// guarded is a text in which each delimiter and each \ has a \ ahead of it, and each line feed, too.
func guarded(text string, delim byte) string {
	s := ""
	for _, c := range []byte(text) {
		if c == delim || c == '\\' || c == '\n' {
			s += `\`
		}
		s += string([]byte{c})
	}
	return s
}

// P12.2: what was guarded is cut whole, whatever is ahead of it and behind it. The \ ahead of the delimiters are gone, the others are still there.
func TestInverse(t *testing.T) {
	for seed := range 60000 {
		r := numbersOf(seed)
		alphabet := r.alphabet()
		text, delim := r.text(r.below(20), alphabet), alphabet[r.below(len(alphabet))]
		if delim == '\n' || delim == '\\' {
			delim = byte(128 + r.below(128))
		}
		mark := string([]byte{delim})
		ahead, inside := r.parts(), guarded(text, delim)
		whole := ahead + inside + mark + r.parts()
		want := cutting{guarded(text, '\\'), len(ahead) + len(inside) + 1, api.OK}
		checkCut(t, whole, len(ahead), delim, true, want)
		if s := strings.NewReplacer(`\\`, `\\`, `\`+mark, mark).Replace(inside); s != want.text {
			t.Fatalf("%q guarded is %q, without the \\ ahead of %q %q; want %q", text, inside, mark, s, want.text)
		}
		if strings.Contains(text, "\n") {
			want = cutting{e: api.ErrToken}
		}
		checkCut(t, whole, len(ahead), delim, false, want)
		if plain := strings.Map(plainByte, wide(text)); !strings.Contains(plain, wide(mark)) {
			checkCut(t, narrow(plain)+mark, 0, delim, seed%2 == 0, cutting{narrow(plain), len(narrow(plain)) + 1, api.OK})
		}
	}
}

// plainByte drops the bytes that mean something wherever they are cut.
func plainByte(c rune) rune {
	if c == '\\' || c == '\n' {
		return -1
	}
	return c
}

// Lines that were written with a \ ahead of each line feed and \ are those lines.
func TestLinesInverse(t *testing.T) {
	for seed := range 30000 {
		r := numbersOf(seed)
		text := r.text(r.below(20), r.alphabet())
		ahead, blanks, behind := r.parts(), r.text(r.below(4), " \t"), ""
		written := blanks + "\\\n"
		for _, c := range []byte(text) {
			if c == '\\' || c == '\n' || r.below(3) == 0 {
				written += `\`
			}
			written += string([]byte{c})
		}
		if r.below(2) == 0 {
			behind = "\n" + r.parts()
		}
		checkLines(t, ahead+written+behind, len(ahead), cutting{text + "\n", len(ahead) + len(written), api.OK})
	}
}

// What is ahead of the index, and what is behind the end, changes no answer.
func TestNothingElse(t *testing.T) {
	for seed := range 60000 {
		r := numbersOf(seed)
		text, ahead, behind := r.parts(), r.parts(), r.parts()
		size, delim := len(ahead), "/,;a"[r.below(4)]
		checkBlanks(t, ahead+text, size, size+token.Blanks(text, 0))
		n, to, ok := token.Number(text, 0)
		checkNumber(t, ahead+text, size, number{n, size + to, ok})
		if ok && to < len(text) {
			checkNumber(t, ahead+text[:to+1]+behind, size, number{n, size + to, ok})
		}
		if s, to := token.Word(text, 0); to < len(text) {
			checkWord(t, ahead+text[:to+1]+behind, size, extent{s, size + to})
		} else {
			checkWord(t, ahead+text+"\n"+behind, size, extent{s, size + to})
			checkWord(t, ahead+text+";"+behind, size, extent{s, size + to})
		}
		if s, to := token.Rest(text, 0); to < len(text) {
			checkRest(t, ahead+text[:to+1]+behind, size, extent{s, size + to})
		} else {
			checkRest(t, ahead+text+"\n"+behind, size, extent{s, size + to})
		}
		if s, to, e := token.Cut(text, 0, delim, true); e == api.OK {
			checkCut(t, ahead+text[:to]+behind, size, delim, true, cutting{s, size + to, e})
		}
		if s, to, e := token.Lines(text, 0); e == api.OK {
			checkLines(t, ahead+text[:to]+"\n"+behind, size, cutting{s, size + to, e})
		}
	}
}

// Texts may be very long.
func TestLarge(t *testing.T) {
	const many = 1 << 22
	blank, filled, digits := strings.Repeat(" \t", many/2), strings.Repeat("a ", many/2), strings.Repeat("0", many)
	checkBlanks(t, blank, 0, many)
	checkBlanks(t, blank+"x", 1, many)
	checkNumber(t, digits, 0, number{0, 0, false})
	checkNumber(t, digits+"1x", many-8, number{1, many + 1, true})
	checkWord(t, blank+filled+blank+";", 0, extent{filled[:many-1], 3 * many})
	checkRest(t, blank+filled+blank, 0, extent{filled[:many-1], 3 * many})
	checkWord(t, blank, 0, extent{"", many})
	checkCut(t, strings.Repeat(`\/`, many/2)+"/", 0, '/', false, cutting{strings.Repeat("/", many/2), many + 1, api.OK})
	checkCut(t, strings.Repeat(`\`, many)+"/", 0, '/', false, cutting{strings.Repeat(`\`, many), many + 1, api.OK})
	checkCut(t, strings.Repeat(`\`, many+1)+"/", 0, '/', false, cutting{e: api.ErrToken})
	checkCut(t, filled, 0, '/', false, cutting{e: api.ErrToken})
	checkLines(t, blank+"\\\n"+strings.Repeat("\\\n", many/2)+"a", 0, cutting{strings.Repeat("\n", many/2) + "a\n", 2*many + 3, api.OK})
	checkLines(t, "\\\n"+strings.Repeat(`\`, many+1), 0, cutting{e: api.ErrToken})
	// Each digit of many is looked at by itself, so that each look must be short.
	for at := range many {
		if _, to, ok := token.Number(digits, at); ok != (at >= many-9) || !ok && to != at {
			t.Fatalf("Number of %d noughts, %d: %d, %v", many, at, to, ok)
		}
	}
}

// P1 and P2 of the document: whatever is given, no call panics, and a call answers the same whatever was asked ahead of it, and on however many sides at once.
func TestTotalAndSame(t *testing.T) {
	type question struct {
		text  string
		at    int
		delim byte
		lines bool
	}
	type answer struct {
		blanks     int
		number     number
		cut, lines cutting
		word, rest extent
	}
	ask := func(q question) (a answer) {
		a.blanks = token.Blanks(q.text, q.at)
		a.number.n, a.number.at, a.number.ok = token.Number(q.text, q.at)
		a.cut.text, a.cut.at, a.cut.e = token.Cut(q.text, q.at, q.delim, q.lines)
		a.word.text, a.word.at = token.Word(q.text, q.at)
		a.rest.text, a.rest.at = token.Rest(q.text, q.at)
		a.lines.text, a.lines.at, a.lines.e = token.Lines(q.text, q.at)
		return a
	}
	var questions []question
	var answers []answer
	for seed := range 5000 {
		r := numbersOf(seed)
		text := r.text(r.below(40), everyByte())
		if seed%2 == 0 {
			text = r.parts()
		}
		q := question{text, r.place(len(text)), byte(r.below(256)), seed%3 == 0}
		questions, answers = append(questions, q), append(answers, ask(q))
	}
	for k := len(questions) - 1; k >= 0; k-- {
		q := questions[k]
		q.text = strings.Clone(q.text)
		if a := ask(q); a != answers[k] {
			t.Errorf("the same question is answered otherwise: %v; want %v", a, answers[k])
		}
	}
	var sides sync.WaitGroup
	for side := range 8 {
		sides.Go(func() {
			for k := range questions {
				i := (k*7 + side*11) % len(questions)
				if a := ask(questions[i]); a != answers[i] {
					t.Errorf("the same question is answered otherwise: %v; want %v", a, answers[i])
				}
			}
		})
	}
	sides.Wait()
}
