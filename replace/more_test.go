package replace_test

import (
	"math"
	"regexp"
	"strconv"
	"strings"
	"sync"
	"testing"

	"headgate/api"
	"headgate/pattern"
	"headgate/replace"
)

// joined are all texts of at most n bytes of an alphabet, shorter ones first.
func joined(alphabet string, n int) []string {
	l := []string{""}
	for from := 0; n > 0; n-- {
		to := len(l)
		for ; from < to; from++ {
			for k := range len(alphabet) {
				l = append(l, l[from]+alphabet[k:k+1])
			}
		}
	}
	return l
}

// numbers is a source of numbers that are the same each time.
type numbers struct{ x uint64 }

func (r *numbers) below(n int) int {
	r.x ^= r.x << 13
	r.x ^= r.x >> 7
	r.x ^= r.x << 17
	return int(r.x >> 33 % uint64(n))
}

func numbersOf(seed int) *numbers {
	return &numbers{uint64(seed)*0x9e3779b97f4a7c15 + 1}
}

// text is one of n bytes of an alphabet.
func (r *numbers) text(n int, alphabet string) string {
	b := make([]byte, n)
	for i := range b {
		b[i] = alphabet[r.below(len(alphabet))]
	}
	return string(b)
}

// pattern is an arbitrary one of a syntax, right or wrong.
func (r *numbers) pattern(extended bool) string {
	parts := []string{"a", "b", "ab", ".", "*", "^", "$", "[a-c]", "[^a]", "\\n", "\x00", "\xff"}
	if extended {
		parts = append(parts, "(", "(", ")", ")", "(a", "b)", ")*", ")+", "|", "|", "+", "?", "{2}", "{1,}", "{0,3}", "a*", "b?", "(a|ab)", "(b)?")
	} else {
		parts = append(parts, "\\(", "\\(", "\\)", "\\)", "\\(a", "b\\)", "\\)*", "\\{2\\}", "\\{1,\\}", "\\{0,3\\}", "a*", "b*", "\\(ab*\\)")
	}
	text := ""
	for range 1 + r.below(7) {
		text += parts[r.below(len(parts))]
	}
	return text
}

// tree is an arbitrary one: also one that no pattern has.
func (r *numbers) tree(deep int) api.Node {
	n := api.Node{Kind: api.NodeKind(r.below(9)), Number: r.below(13) - 1, Min: r.below(7) - 2, Max: r.below(8) - 3}
	for range r.below(4) {
		if deep > 0 {
			n.Kids = append(n.Kids, r.tree(deep-1))
		}
	}
	if deep == 0 && r.below(2) == 0 {
		n.Kind = api.One
	}
	for _, c := range []byte{'a', 'b', '\n', 0, 200} {
		if r.below(2) == 0 {
			n.Set[c/64] |= 1 << (c % 64)
		}
	}
	return n
}

// pieces are arbitrary ones: also such as no template has.
func (r *numbers) pieces() []api.Piece {
	var l []api.Piece
	for range r.below(6) {
		p := api.Piece{Text: r.text(r.below(4), "&\\1x\n\x00\xff"), N: r.below(15) - 3}
		switch r.below(20) {
		case 0:
			p.N = []int{math.MaxInt, math.MinInt, 1000, -1000}[r.below(4)]
		case 1:
			p.Text = strings.Repeat("long", r.below(300))
		}
		l = append(l, p)
	}
	return l
}

// Every short template, held against the chapter's words.
func TestShortTemplates(t *testing.T) {
	for _, text := range append(joined("&\\1n0a", 6), joined("\\9:/&\n", 5)...) {
		l, ok := elements(text)
		if ok {
			checkParse(t, text, merged(l), api.OK)
		} else {
			checkParse(t, text, nil, api.ErrTemplate)
		}
	}
}

func TestArbitraryTemplates(t *testing.T) {
	for seed := range 20000 {
		r := numbersOf(seed)
		text := r.text(r.below(60), "&&\\\\\\0123456789nab\n\x00\x7f\x80\xff")
		l, ok := elements(text)
		if !ok {
			checkParse(t, text, nil, api.ErrTemplate)
			continue
		}
		checkParse(t, text, merged(l), api.OK)
		greatest := 0
		for _, p := range l {
			greatest = max(greatest, p.N)
		}
		if n := replace.Groups(pieces(t, text)); n != greatest {
			t.Fatalf("Groups of %q: %d; want %d", text, n, greatest)
		}
	}
}

// written is a template that says what some pieces are: a byte in one of the ways in which it may be written.
func (r *numbers) written(l []api.Piece) string {
	text := ""
	for _, p := range l {
		switch {
		case p.N == 0:
			text += "&"
		case p.N > 0:
			text += `\` + strconv.Itoa(p.N)
		}
		for _, c := range []byte(p.Text) {
			s := string([]byte{c})
			switch {
			case c == '\n' && r.below(2) == 0:
				s = `\n`
			case c == '&' || c == '\\' || r.below(3) == 0 && strings.IndexByte("123456789n", c) < 0:
				s = `\` + s
			}
			text += s
		}
	}
	return text
}

// Templates that were written are parsed as what they were written from.
func TestWritten(t *testing.T) {
	for seed := range 20000 {
		r := numbersOf(seed)
		var l []api.Piece
		for range r.below(12) {
			p := group(r.below(10))
			if r.below(2) == 0 {
				p = plain(r.text(1+r.below(5), "&\\0123456789nab\n\x00\x7f\x80\xff"))
			}
			l = append(l, p)
		}
		text := r.written(l)
		checkParse(t, text, merged(l), api.OK)
		checkParse(t, text+`\`, nil, api.ErrTemplate)
	}
}

func TestArbitraryFills(t *testing.T) {
	for seed := range 40000 {
		r := numbersOf(seed)
		text := r.text(r.below(12), "ab\x00\xff")
		var m api.Match
		for k := range m {
			m[k] = api.Span{From: r.below(len(text)+4) - 2, To: r.below(len(text)+4) - 2}
		}
		l := r.pieces()
		checkFill(t, l, text, m, fill(l, text, m))
	}
}

// Every text of a few bytes, with patterns of which some match the empty text, held against the chapter's words.
func TestShortTexts(t *testing.T) {
	for _, text := range []string{"a", "ab", "a*", "a?", "a+", "a|b", "(a)|(b)", "a*b*", "(a|ab)(b*)", "^", "$", "^a", "a$", "^a*", "a*$", "^$", "^|a", "a|$", "b|^|$", "(^|a)b?", ".", ".*", ".?", "..", "(a?)(b?)", "(a*)b|$", "a{2}", "a{0,2}", "b*|ab", "c"} {
		n := parsed(t, text)
		for _, s := range joined("ab", 5) {
			checkTold(t, n, []api.Piece{plain("<"), group(1), plain("|"), group(0), plain(">")}, s)
			checkTold(t, n, nil, s)
		}
	}
}

func TestArbitraryPatterns(t *testing.T) {
	patterns := 0
	for seed := range 40000 {
		r := numbersOf(seed)
		extended := seed%2 == 0
		n, e := pattern.Parse(r.pattern(extended), extended)
		if e != api.OK {
			continue
		}
		patterns++
		checkTold(t, n, r.pieces(), r.text(r.below(9), "aaabbc\n\x00\xff"))
	}
	if patterns < 5000 {
		t.Errorf("only %d texts were patterns", patterns)
	}
}

func TestArbitraryTrees(t *testing.T) {
	replaced := 0
	for seed := range 10000 {
		r := numbersOf(seed)
		n, l := r.tree(1+r.below(3)), r.pieces()
		text := r.text(r.below(8), "aab\n\x00\xc8")
		checkTold(t, n, l, text)
		if _, k, _ := replace.Replace(n, l, text, 1, true); k > 1 {
			replaced++
		}
	}
	if replaced < 2000 {
		t.Errorf("only in %d texts was more than one match replaced", replaced)
	}
}

// Texts and results up to the limits, and a little beyond them.
func TestArbitraryLengths(t *testing.T) {
	large := 0
	for seed := range 800 {
		r := numbersOf(seed)
		n := parsed(t, []string{"a", "(a)", "b+", "a*", "(a|b)c?", "x|y", "$", "^", "abc", "(ab)+c*"}[r.below(10)])
		l := r.pieces()
		if r.below(3) == 0 {
			l = append(l, plain(r.text(r.below(900), "ab")))
		}
		text := r.text([]int{r.below(1030), 1020 + r.below(6), r.below(600)}[r.below(3)], "abc")
		count, global := 1+r.below(400)*r.below(2), r.below(3) > 0
		want := told(all(found(n, text)), l, text, count, global)
		checkReplace(t, n, l, text, count, global, want)
		if want.e == api.ErrSpace {
			large++
		}
	}
	if large < 100 || large > 700 {
		t.Errorf("%d of 800 were too large", large)
	}
}

// P11.2 and P11.3, told without the chapter's order of matches: marks around the matches that are taken away again leave the text, what is between the marks is a match, and what is not stays.
func TestNothingElse(t *testing.T) {
	marks := []api.Piece{plain("\x01"), group(0), plain("\x02")}
	outside := regexp.MustCompile("\x01[^\x02]*\x02")
	checked := 0
	for seed := range 20000 {
		r := numbersOf(seed)
		n := r.tree(2)
		if seed%2 == 0 {
			p, e := pattern.Parse(r.pattern(true), true)
			if e != api.OK {
				continue
			}
			n = p
		}
		text := r.text(r.below(30), "aabbc")
		count, global := 1+r.below(3), r.below(4) > 0
		marked, k, e := replace.Replace(n, marks, text, count, global)
		if e != api.OK || strings.Count(marked, "\x01") != k || strings.NewReplacer("\x01", "", "\x02", "").Replace(marked) != text {
			t.Fatalf("Replace(%v, %v, %q, %d, %v): %q, %d, %v", n, marks, text, count, global, marked, k, e)
		}
		if k == 0 {
			checkReplace(t, n, r.pieces(), text, count, global, answer{text, 0, api.OK})
			continue
		}
		checked++
		checkReplace(t, n, []api.Piece{group(0)}, text, count, global, answer{text, k, api.OK})
		checkReplace(t, n, nil, text, count, global, answer{outside.ReplaceAllString(marked, ""), k, api.OK})
		checkReplace(t, n, []api.Piece{plain("new")}, text, count, global, answer{outside.ReplaceAllString(marked, "new"), k, api.OK})
	}
	if checked < 4000 {
		t.Errorf("only %d were replaced", checked)
	}
}

// P11.3: the template & changes nothing, whatever the pattern, the text and the count.
func TestIdentity(t *testing.T) {
	same := pieces(t, "&")
	var every []byte
	for c := range 256 {
		every = append(every, byte(c))
	}
	texts := []string{"", "a", string(every), strings.Repeat(string(every), 4), strings.Repeat("ab", 512), "\n\n", "&\\1&"}
	for _, p := range []string{"a", "b*", ".", ".*", "^", "$", "x*", "(a)|b", "[\x80-\xff]+", "\x00", "[^a]?", "\\n|$", "(&|\\\\)+"} {
		n := parsed(t, p)
		for _, text := range texts {
			for _, count := range []int{1, 2, 3, 100, 1024, 1025, 1026, math.MaxInt} {
				s, k, e := replace.Replace(n, same, text, count, true)
				if s != text || e != api.OK || k > len(text)+1 || count > len(text)+1 && k > 0 {
					t.Fatalf("%q by & in %q from the %d-th on: %q, %d, %v", p, short(text), count, short(s), k, e)
				}
				checkReplace(t, n, same, text, count, false, answer{text, min(k, 1), api.OK})
			}
		}
	}
}

// P11.2: without a match every text stays, whatever bytes it has.
func TestWithoutMatch(t *testing.T) {
	for seed := range 300 {
		r := numbersOf(seed)
		b := make([]byte, r.below(1025))
		for i := range b {
			b[i] = byte(r.below(256))
		}
		text := strings.ReplaceAll(string(b), "x", "y")
		for _, p := range []string{"x", "^x", "x$", "a+x", "(.*)x(.*)", "[x]{2}"} {
			checkReplace(t, parsed(t, p), r.pieces(), text, 1+r.below(3), seed%2 == 0, answer{text, 0, api.OK})
		}
		checkReplace(t, api.Node{Kind: api.Either}, r.pieces(), text, 1, true, answer{text, 0, api.OK})
	}
}

// What Go's library replaces, which takes the leftmost longest matches too, and leaves out the same empty ones.
func TestAgainstLibrary(t *testing.T) {
	patterns := 0
	for seed := range 60000 {
		r := numbersOf(seed)
		text := r.pattern(true)
		// A beginning or an end inside of a repeat it understands otherwise.
		if strings.ContainsAny(strings.ReplaceAll(text, "[^a]", ""), "^$\\\x00\xff") {
			continue
		}
		text = []string{"", "", "^"}[r.below(3)] + text + []string{"", "", "$"}[r.below(3)]
		n, e := pattern.Parse(text, true)
		if e != api.OK {
			continue
		}
		patterns++
		s := r.text(r.below(60), "aaabbc")
		k := 0
		want := regexp.MustCompilePOSIX(text).ReplaceAllStringFunc(s, func(whole string) string {
			k++
			return "<" + whole + ">"
		})
		checkReplace(t, n, []api.Piece{plain("<"), group(0), plain(">")}, s, 1, true, answer{want, k, api.OK})
	}
	if patterns < 4000 {
		t.Errorf("only %d texts were patterns", patterns)
	}
}

// Templates and pieces may be very many, and what they are very long: a result that can't be is not put together.
func TestLarge(t *testing.T) {
	const many = 1 << 20
	checkParse(t, strings.Repeat("a", many), []api.Piece{plain(strings.Repeat("a", many))}, api.OK)
	checkParse(t, strings.Repeat(`\`, many), []api.Piece{plain(strings.Repeat(`\`, many/2))}, api.OK)
	checkParse(t, strings.Repeat(`\`, many+1), nil, api.ErrTemplate)
	l := pieces(t, strings.Repeat(`&\3`, many/2))
	if len(l) != many || l[many-1] != group(3) || replace.Groups(l) != 3 {
		t.Errorf("%d pieces, and the last one is %v", len(l), l[many-1])
	}
	checkFill(t, l, "abc", spans(1, 2, -1, -1, -1, -1, 2, 3), strings.Repeat("bc", many/2))
	full := strings.Repeat("a", 1024)
	n := parsed(t, "(((a*))*)x?")
	checkReplace(t, n, l, full, 1, true, answer{e: api.ErrSpace})
	checkReplace(t, n, l, "", 1, true, answer{"", 1, api.OK})
	checkReplace(t, n, l, "b", 1, true, answer{"b", 2, api.OK})
	checkReplace(t, n, []api.Piece{plain(strings.Repeat("b", many))}, full, 1, false, answer{e: api.ErrSpace})
	none := make([]api.Piece, 1<<14)
	for k := range none {
		none[k].N = k%9 + 2
	}
	checkReplace(t, parsed(t, "(a)"), none, full, 1, true, answer{"", 1024, api.OK})
}

// Nodes may be nested as deeply as the bound lets them.
func TestDeep(t *testing.T) {
	n := parsed(t, "a*")
	for k := range 1<<16 - 2 {
		n = api.Node{Kind: []api.NodeKind{api.Row, api.Group, api.Either}[k%3], Number: 9, Kids: []api.Node{n}}
	}
	checkReplace(t, n, pieces(t, `<\9>`), "baac", 1, true, answer{"<>b<aa>c<>", 3, api.OK})
}

// Patterns that match on very many ways, at very many places.
func TestManyWays(t *testing.T) {
	full := strings.Repeat("a", 1024)
	for _, p := range []string{"((a*)*b)?", "(a|aa)*b|x*", "((((a*)*)*)*b)?", "(a*){20}b|x*", strings.Repeat("a?", 30) + "b|x*"} {
		checkReplace(t, parsed(t, p), pieces(t, "&"), full, 1, true, answer{full, 1025, api.OK})
	}
	checkReplace(t, parsed(t, "(a|aa){20}"), pieces(t, `<\1>`), full, 1, true, answer{strings.Repeat("<aa>", 25) + "<a>", 26, api.OK})
	checkReplace(t, parsed(t, "(a|b)*"), pieces(t, `\1`), full, 1, true, answer{"a", 1, api.OK})
}

// copied is a tree in memory of its own, what is behind the length of its lists included.
func copied(n api.Node) api.Node {
	kids := append([]api.Node(nil), n.Kids[:cap(n.Kids)]...)
	for k := range kids {
		kids[k] = copied(kids[k])
	}
	n.Kids = kids[:len(n.Kids):len(kids)]
	return n
}

// same tells whether two trees have the same nodes, what is behind the length of their lists included.
func same(a, b api.Node) bool {
	if a.Kind != b.Kind || a.Set != b.Set || a.Min != b.Min || a.Max != b.Max || a.Number != b.Number || len(a.Kids) != len(b.Kids) {
		return false
	}
	x, y := a.Kids[:cap(a.Kids)], b.Kids[:cap(b.Kids)]
	for k := range x {
		if !same(x[k], y[k]) {
			return false
		}
	}
	return true
}

// Trees and pieces stay as they are, and what is behind the length of a list is not read.
func TestArgumentsStay(t *testing.T) {
	all := []api.Piece{plain("<"), group(1), plain(">"), group(9), group(12)}
	for size, want := range []string{"bb", "<b<b", "<ab<ab", "<a>b<a>b", "<a>b<a>b", "<a>b<a>b"} {
		l := all[:size]
		before := append([]api.Piece(nil), all...)
		checkReplace(t, parsed(t, "(a)"), l, "abab", 1, true, answer{want, 2, api.OK})
		checkFill(t, l, "abab", spans(0, 1, 0, 1), strings.TrimSuffix(want[:len(want)/2], "b"))
		if n := replace.Groups(l); n != []int{0, 0, 1, 1, 9, 12}[size] {
			t.Errorf("Groups of the first %d: %d", size, n)
		}
		if !samePieces(all, before) {
			t.Fatalf("%v were changed", before)
		}
	}
	for seed := range 3000 {
		r := numbersOf(seed)
		n, l := r.tree(3), r.pieces()
		nodes, list := copied(n), append([]api.Piece(nil), l[:cap(l)]...)
		replace.Replace(n, l, r.text(r.below(12), "ab"), 1+r.below(3), seed%2 == 0)
		replace.Groups(l)
		replace.Fill(l, "ab", spans(0, 2))
		if !same(nodes, copied(n)) || !samePieces(list, l[:cap(l)]) {
			t.Fatalf("%v or %v was changed", nodes, list)
		}
	}
}

// Lists of pieces share nothing: who changes one changes no other.
func TestListsApart(t *testing.T) {
	a, b := pieces(t, `x&\1`), pieces(t, `x&\1`)
	for k := range a {
		a[k] = api.Piece{Text: "changed", N: 7}
	}
	a = append(a, plain("more"))
	if want := []api.Piece{plain("x"), group(0), group(1)}; !samePieces(b, want) || len(a) != 4 {
		t.Errorf("%v; want %v", b, want)
	}
	checkParse(t, `x&\1`, b, api.OK)
}

// P1 and P2 of the document: whatever is given, no call panics, and a call answers the same whatever was asked ahead of it, and on however many sides at once.
func TestTotalAndSame(t *testing.T) {
	type question struct {
		n      api.Node
		l      []api.Piece
		text   string
		count  int
		global bool
	}
	var questions []question
	var answers []answer
	ask := func(q question) answer { return asked(q.n, q.l, q.text, q.count, q.global) }
	for seed := range 2000 {
		r := numbersOf(seed)
		q := question{r.tree(3), r.pieces(), r.text(r.below(40), "ab\n\x00\xc8"), r.below(5) - 1, r.below(2) == 0}
		questions, answers = append(questions, q), append(answers, ask(q))
	}
	for k := len(questions) - 1; k >= 0; k-- {
		q := questions[k]
		q.n, q.l = copied(q.n), append([]api.Piece(nil), q.l...)
		if a := ask(q); a != answers[k] {
			t.Errorf("the same question is answered otherwise: %v; want %v", a, answers[k])
		}
	}
	var sides sync.WaitGroup
	for side := range 8 {
		sides.Go(func() {
			for k := range questions {
				i := (k*7 + side*11) % len(questions)
				if a := ask(questions[i]); a != answers[i] {
					t.Errorf("the same question is answered otherwise: %v; want %v", a, answers[i])
				}
			}
		})
	}
	sides.Wait()
}
