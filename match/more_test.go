package match_test

import (
	"math"
	"regexp"
	"strings"
	"sync"
	"testing"

	"headgate/api"
	"headgate/match"
	"headgate/pattern"
)

// joined are all texts of at most n bytes of an alphabet, shorter ones first.
func joined(alphabet string, n int) []string {
	l := []string{""}
	for from := 0; n > 0; n-- {
		to := len(l)
		for ; from < to; from++ {
			for k := range len(alphabet) {
				l = append(l, l[from]+alphabet[k:k+1])
			}
		}
	}
	return l
}

// numbers is a source of numbers that are the same each time.
type numbers struct{ x uint64 }

func (r *numbers) below(n int) int {
	r.x ^= r.x << 13
	r.x ^= r.x >> 7
	r.x ^= r.x << 17
	return int(r.x >> 33 % uint64(n))
}

func numbersOf(seed int) *numbers {
	return &numbers{uint64(seed)*0x9e3779b97f4a7c15 + 1}
}

// text is one of n bytes of an alphabet.
func (r *numbers) text(n int, alphabet string) string {
	b := make([]byte, n)
	for i := range b {
		b[i] = alphabet[r.below(len(alphabet))]
	}
	return string(b)
}

// sized are all trees of a number of nodes, of some leaves and of some kinds of nodes above them.
func sized(size int, smaller [][]api.Node) []api.Node {
	if size == 1 {
		return []api.Node{one("a"), one("b"), nothing(), begin(), end(), row(), bars()}
	}
	var l []api.Node
	for _, kid := range smaller[size-1] {
		l = append(l, group(1, kid), group(2, kid), times(0, -1, kid), times(1, -1, kid), times(2, -1, kid), times(2, 2, kid), times(0, 1, kid), times(3, 2, kid), times(-1, 0, kid))
	}
	for k := 1; k < size-1; k++ {
		for _, x := range smaller[k] {
			for _, y := range smaller[size-1-k] {
				l = append(l, row(x, y), bars(x, y))
			}
		}
	}
	return l
}

// Every small tree, held against the chapter's words.
func TestSmallTrees(t *testing.T) {
	trees := [][]api.Node{nil}
	for size := 1; size <= 4; size++ {
		trees = append(trees, sized(size, trees))
		texts := joined("ab", 4)
		if size == 4 {
			texts = []string{"", "a", "ab", "aab"}
		}
		for _, n := range trees[size] {
			for _, text := range texts {
				checkTold(t, n, text)
			}
		}
	}
	if n := len(trees[4]); n < 5000 {
		t.Errorf("only %d trees", n)
	}
}

// tree is an arbitrary one: also one that no pattern has.
func (r *numbers) tree(deep int) api.Node {
	n := api.Node{Kind: api.NodeKind(r.below(8)), Number: r.below(13) - 1, Min: r.below(7) - 2, Max: r.below(8) - 3}
	for range r.below(4) {
		if deep > 0 {
			n.Kids = append(n.Kids, r.tree(deep-1))
		}
	}
	switch r.below(40) {
	case 0:
		n.Kind = api.NodeKind([]int{-1, 8, 99, math.MaxInt, math.MinInt}[r.below(5)])
	case 1:
		n.Min = []int{math.MaxInt, math.MinInt, 1000}[r.below(3)]
	case 2:
		n.Max = []int{math.MaxInt, math.MinInt, 1000}[r.below(3)]
	}
	if deep == 0 && r.below(2) == 0 {
		n.Kind = api.One
	}
	for _, c := range []byte{'a', 'b', '\n', 0, 200} {
		if r.below(2) == 0 {
			n.Set[c/64] |= 1 << (c % 64)
		}
	}
	return n
}

func TestArbitraryTrees(t *testing.T) {
	found := 0
	for seed := range 40000 {
		r := numbersOf(seed)
		n := r.tree(1 + r.below(4))
		text := r.text(r.below(8), "aab\n\x00\xc8")
		checkTold(t, n, text)
		if m, _ := match.Find(n, text, 0, true); m[0].To > 1 {
			found++
		}
	}
	if found < 4000 {
		t.Errorf("only %d trees matched more than a byte", found)
	}
}

// pattern is an arbitrary one of a syntax, right or wrong.
func (r *numbers) pattern(extended bool) string {
	parts := []string{"a", "b", "ab", ".", "*", "^", "$", "[a-c]", "[^a]", "\\n", "\x00", "\xff"}
	if extended {
		parts = append(parts, "(", "(", ")", ")", "(a", "b)", ")*", ")+", "|", "|", "+", "?", "{2}", "{1,}", "{0,3}", "a*", "b?", "(a|ab)")
	} else {
		parts = append(parts, "\\(", "\\(", "\\)", "\\)", "\\(a", "b\\)", "\\)*", "\\{2\\}", "\\{1,\\}", "\\{0,3\\}", "a*", "b*", "\\(ab*\\)")
	}
	text := ""
	for range 1 + r.below(9) {
		text += parts[r.below(len(parts))]
	}
	return text
}

func TestArbitraryPatterns(t *testing.T) {
	patterns := 0
	for seed := range 60000 {
		r := numbersOf(seed)
		extended := seed%2 == 0
		n, e := pattern.Parse(r.pattern(extended), extended)
		if e != api.OK {
			continue
		}
		patterns++
		checkTold(t, n, r.text(r.below(9), "aaabbc\n\x00\xff"))
	}
	if patterns < 8000 {
		t.Errorf("only %d texts were patterns", patterns)
	}
}

// Words, so many times: how many rounds there may be decides how far the first ones go.
func TestCountedWords(t *testing.T) {
	for seed := range 2000 {
		r := numbersOf(seed)
		var words []api.Node
		for k := range 2 + r.below(4) {
			word := row()
			for range 1 + r.below(3) {
				word.Kids = append(word.Kids, one("ab"[r.below(2):][:1]))
			}
			words = append(words, group(2+k, word))
		}
		least := r.below(5)
		n := times(least, least+r.below(4)-1, group(1, bars(words...)))
		if r.below(2) == 0 {
			n = row(times(0, 2+r.below(2), one("a")), n, times(0, -1, one("b")))
		}
		checkTold(t, n, r.text(3+r.below(8), "aab"))
	}
}

// Longer texts, up to some hundreds of bytes, of which the model tells one answer each.
func TestLongerTexts(t *testing.T) {
	for seed := range 1500 {
		r := numbersOf(seed)
		n, e := pattern.Parse(r.pattern(true), true)
		if seed%3 == 0 {
			n = r.tree(3)
		} else if e != api.OK {
			continue
		}
		text := r.text(40+r.below(100), "aaab")
		from, begins := r.below(len(text)), seed%2 == 0
		want, is := newModel(text, begins).find(n, from)
		checkFind(t, n, text, from, begins, want, is)
	}
}

// P10.2: Is knows of no match further left than what Find found, nor of a longer one there.
func TestLeftmostLongest(t *testing.T) {
	for seed := range 3000 {
		r := numbersOf(seed)
		n := r.tree(3)
		text := r.text(r.below(24), "ab")
		from, begins := r.below(len(text)+1), seed%2 == 0
		m, ok := match.Find(n, text, from, begins)
		if ok {
			checkIs(t, n, text, m[0].From, m[0].To, begins, true)
		} else {
			m[0] = api.Span{From: len(text) + 1, To: len(text)}
		}
		for i := from; i <= min(m[0].From, len(text)); i++ {
			least := i
			if i == m[0].From {
				least = m[0].To + 1
			}
			for j := least; j <= len(text); j++ {
				checkIs(t, n, text, i, j, begins, false)
			}
		}
	}
}

// The wholes of patterns, held against those of the library, which takes the leftmost longest match, too. A beginning or an end inside of a repeat it understands otherwise.
func TestAgainstLibrary(t *testing.T) {
	patterns := 0
	for seed := range 60000 {
		r := numbersOf(seed)
		text := r.pattern(true)
		if strings.ContainsAny(strings.ReplaceAll(text, "[^a]", ""), "^$\\\x00\xff") {
			continue
		}
		text = []string{"", "", "^"}[r.below(3)] + text + []string{"", "", "$"}[r.below(3)]
		n, e := pattern.Parse(text, true)
		if e != api.OK {
			continue
		}
		patterns++
		s := r.text(r.below(60), "aaabbc")
		want := regexp.MustCompilePOSIX(text).FindStringIndex(s)
		m, ok := match.Find(n, s, 0, true)
		if ok != (want != nil) || ok && (m[0].From != want[0] || m[0].To != want[1]) {
			t.Fatalf("Find of %q in %q: %v, %v; want %v", text, s, m, ok, want)
		}
	}
	if patterns < 4000 {
		t.Errorf("only %d texts were patterns", patterns)
	}
}

// checkNested checks that groups of a tree are within what encloses them. Of groups that a repeat has in common this holds for each round by itself, but an earlier round's span remains where a later one sets none.
func checkNested(t *testing.T, n api.Node, m api.Match, around api.Span, repeated bool) {
	t.Helper()
	if n.Kind == api.Group {
		s := m[n.Number]
		if s.From >= 0 && (s.From > s.To || s.From < around.From || s.To > around.To) {
			t.Fatalf("group %d is from %d to %d, outside of %d to %d", n.Number, s.From, s.To, around.From, around.To)
		}
		if s.From >= 0 && !repeated {
			around = s
		}
	}
	for _, kid := range n.Kids {
		checkNested(t, kid, m, around, repeated || n.Kind == api.Repeat)
	}
}

// P10.3: each group is within what encloses it.
func TestNested(t *testing.T) {
	checked := 0
	for seed := range 40000 {
		r := numbersOf(seed)
		n, e := pattern.Parse(r.pattern(true), true)
		if e != api.OK {
			continue
		}
		text := r.text(r.below(40), "aab")
		if m, ok := match.Find(n, text, r.below(len(text)+1), seed%2 == 0); ok {
			checked++
			checkNested(t, n, m, m[0], false)
		}
	}
	if checked < 2000 {
		t.Errorf("only %d patterns matched", checked)
	}
	for _, c := range []struct{ pattern, text string }{
		{"((a)(b(c)))", "xabc"}, {"((a|b)*c)", "abac"}, {"(((a*)*)*)", "aaa"}, {"(a(b(c)?)?)?d", "abd"}, {"(x(a|b)*y)+", "xabyxy"},
	} {
		n := parsed(t, c.pattern)
		m, ok := match.Find(n, c.text, 0, true)
		if !ok {
			t.Fatalf("%q in %q", c.pattern, c.text)
		}
		checkNested(t, n, m, m[0], false)
	}
}

// Patterns that match, or do not, on very many ways are answered all the same.
func TestManyWays(t *testing.T) {
	text := strings.Repeat("a", 1024)
	for _, c := range []example{
		{"(a*)*b", text, nil}, {"(a+)+b", text, nil}, {"(a|a)*b", text, nil}, {"(a|aa)*b", text, nil}, {"(((((((((a*)*)*)*)*)*)*)*)*)*b", text, nil}, {strings.Repeat(".*", 99) + "b", text, nil}, {strings.Repeat("a?", 66) + strings.Repeat("a", 66), text, []int{0, 132}}, {"((((((a{1,20}){1,20}){1,20}){1,20}){1,20}){1,20}){20}b", text, nil}, {"(((a*b|a)*b|a)*b|a)*b", text, nil}, {"(x*a*a*a*a*a*a*a*a*a*a){20}b", text, nil},
		{"(a*)*", text, []int{0, 1024, 0, 1024}}, {"((a|aa){20}){20}", text, []int{0, 800, 760, 800, 798, 800}}, {"(((a|aa)*)*)*", text, []int{0, 1024, 0, 1024, 0, 1024, 1022, 1024}}, {"(.*)(.*)(.*)a", text, []int{0, 1024, 0, 1023, 1023, 1023, 1023, 1023}}, {"(a?){20}(a{20}){20}(a*)", text, []int{0, 1024, 19, 20, 400, 420, 420, 1024}}, {"(a|b|ab)*c", strings.Repeat("ab", 511) + "c", []int{0, 1023, 1020, 1022}},
	} {
		checkExamples(t, []example{c})
	}
	many := times(1000, 1000, row(dot(), group(1, times(0, -1, dot()))))
	checkFind(t, many, text, 0, true, spans(0, 1024, 1024, 1024), true)
	checkFind(t, row(many, one("b")), text, 0, true, api.Match{}, false)
	checkFind(t, times(1024, 1024, group(1, dot())), text, 0, true, spans(0, 1024, 1023, 1024), true)
	checkFind(t, times(1025, -1, group(1, dot())), text, 0, true, api.Match{}, false)
}

// deepTrees are trees of n nodes, one inside of the other, all of them with a group of two bytes inside.
func deepTrees(n int) map[string]api.Node {
	l := map[string]api.Node{}
	for name, above := range map[string]func(k int, kid api.Node) api.Node{
		"rows":    func(k int, kid api.Node) api.Node { return row(kid) },
		"ahead":   func(k int, kid api.Node) api.Node { return row(kid, end(), times(0, 1, one("b"))) },
		"behind":  func(k int, kid api.Node) api.Node { return row(times(0, 1, one("b")), kid) },
		"eithers": func(k int, kid api.Node) api.Node { return bars(one("b"), kid) },
		"groups":  func(k int, kid api.Node) api.Node { return group(1+k%9, kid) },
		"repeats": func(k int, kid api.Node) api.Node { return times(k%2, 1-k%3, kid) },
		"each": func(k int, kid api.Node) api.Node {
			return api.Node{Kind: []api.NodeKind{api.Row, api.Group, api.Repeat, api.Either}[k%4], Number: 1, Max: -1, Kids: []api.Node{kid}}
		},
	} {
		x := group(9, times(2, 2, one("a")))
		for k := range n - 3 {
			x = above(k, x)
		}
		l[name] = x
	}
	return l
}

// Nodes may be nested as deeply as the bound lets them. The model tells the same trees with fewer levels, which change nothing.
func TestDeepTrees(t *testing.T) {
	small := deepTrees(60)
	for name, n := range deepTrees(1 << 16) {
		for _, text := range []string{"", "baaa"} {
			want, is := newModel(text, true).find(small[name], 0)
			m, ok := match.Find(n, text, 0, true)
			if ok != is || m != want {
				t.Errorf("%s: %v, %v of %q; want %v, %v", name, m, ok, text, want, is)
			}
			checkIs(t, n, text, 0, len(text), true, newModel(text, true).matches(small[name], 0, len(text)))
		}
	}
}

// Rows and alternatives may be many.
func TestWideTrees(t *testing.T) {
	var optional, other []api.Node
	for range 1 << 16 {
		optional = append(optional, times(0, 1, one("b")))
		other = append(other, one("b"))
	}
	a := group(1, one("a"))
	checkFind(t, row(append(optional, a)...), "xba", 0, true, spans(1, 3, 2, 3), true)
	checkFind(t, row(append([]api.Node{a}, optional...)...), "bab", 0, true, spans(1, 3, 1, 2), true)
	checkFind(t, bars(append(other, a)...), "xa", 0, true, spans(1, 2, 1, 2), true)
	checkFind(t, row(other...), strings.Repeat("b", 1024), 0, true, api.Match{}, false)
	checkIs(t, row(other...), strings.Repeat("b", 1<<16), 0, 1<<16, true, true)
}

// Is takes long texts, and ends far behind in them.
func TestLongTexts(t *testing.T) {
	size := 1 << 20
	text := strings.Repeat("ab", size/2)
	for _, c := range []struct {
		pattern  string
		from, to int
		want     bool
	}{
		{"(ab)*", 0, size, true}, {"(ab)*", 0, size - 1, false}, {"(((ab)*)*)+", 0, size, true}, {"(ab|a)*", 0, size - 1, true}, {"(a|b)+$", 1, size, true}, {"(a|b)+$", 1, size - 1, false}, {".*b", 0, size, true}, {"ab$", size - 2, size, true}, {"^ab", size - 2, size, false}, {"(.*a)b", size - 3, size, true}, {"(.*a)b", size - 3, size - 1, false}, {"$", size, size, true}, {"c*", size - 1, size, false},
	} {
		checkIs(t, parsed(t, c.pattern), text, c.from, c.to, true, c.want)
	}
	checkIs(t, times(size, size, dot()), text, 0, size, true, true)
	checkIs(t, times(size, -1, dot()), text, 1, size, true, false)
}

// copied is a tree in memory of its own, what is behind the length of its lists included.
func copied(n api.Node) api.Node {
	kids := append([]api.Node(nil), n.Kids[:cap(n.Kids)]...)
	for k := range kids {
		kids[k] = copied(kids[k])
	}
	n.Kids = kids[:len(n.Kids):len(kids)]
	return n
}

// same tells whether two trees have the same nodes, what is behind the length of their lists included.
func same(a, b api.Node) bool {
	if a.Kind != b.Kind || a.Set != b.Set || a.Min != b.Min || a.Max != b.Max || a.Number != b.Number || len(a.Kids) != len(b.Kids) {
		return false
	}
	x, y := a.Kids[:cap(a.Kids)], b.Kids[:cap(b.Kids)]
	for k := range x {
		if !same(x[k], y[k]) {
			return false
		}
	}
	return true
}

// Trees stay as they are, and what is behind the length of a list is not read.
func TestArgumentsStay(t *testing.T) {
	a, b := one("a"), one("b")
	all := []api.Node{a, group(1, b), group(2, a)}
	for _, c := range []struct {
		n    api.Node
		want api.Match
	}{
		{row(all[:2]...), spans(0, 2, 1, 2)}, {bars(all[:1]...), spans(0, 1)}, {row(all[:0]...), spans(0, 0)}, {group(3, all[:0]...), spans(0, 0, -1, -1, -1, -1, 0, 0)}, {times(1, 1, all[:0]...), spans(0, 0)}, {times(0, -1, row(all[:2]...)), spans(0, 4, 3, 4)},
	} {
		before := copied(c.n)
		checkFind(t, c.n, "abab", 0, true, c.want, true)
		checkIs(t, c.n, "abab", 0, c.want[0].To, true, true)
		if !same(before, c.n) {
			t.Errorf("%s was changed", shown(c.n))
		}
	}
	for seed := range 2000 {
		r := numbersOf(seed)
		n := r.tree(4)
		before := copied(n)
		text := r.text(r.below(12), "ab")
		match.Find(n, text, 0, true)
		match.Is(n, text, 0, len(text), true)
		if !same(before, copied(n)) {
			t.Fatalf("%s was changed", shown(before))
		}
	}
}

// answer is what a tree and a text are answered.
type answer struct {
	m      api.Match
	ok, is bool
}

func ask(n api.Node, text string, begins bool) answer {
	m, ok := match.Find(n, text, 0, begins)
	return answer{m, ok, match.Is(n, text, 0, len(text), begins)}
}

// P1 and P2 of the document: whatever is given, no call panics, and a call answers the same whatever was asked ahead of it, and on however many sides at once.
func TestTotalAndSame(t *testing.T) {
	var trees []api.Node
	var texts []string
	var answers []answer
	for seed := range 3000 {
		r := numbersOf(seed)
		n, text := r.tree(4), r.text(r.below(40), "ab\n\x00\xc8")
		trees, texts, answers = append(trees, n), append(texts, text), append(answers, ask(n, text, seed%2 == 0))
	}
	for k := len(trees) - 1; k >= 0; k-- {
		if ask(copied(trees[k]), texts[k], k%2 == 0) != answers[k] {
			t.Errorf("the same tree is answered otherwise: %s", shown(trees[k]))
		}
	}
	var sides sync.WaitGroup
	for side := range 8 {
		sides.Go(func() {
			for k := range trees {
				i := (k*7 + side*11) % len(trees)
				if ask(trees[i], texts[i], i%2 == 0) != answers[i] {
					t.Errorf("the same tree is answered otherwise: %s", shown(trees[i]))
				}
			}
		})
	}
	sides.Wait()
}
