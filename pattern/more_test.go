package pattern_test

import (
	"strconv"
	"strings"
	"sync"
	"testing"

	"headgate/api"
	"headgate/pattern"
)

// joined are all texts of at most n of some parts, one behind the other, shorter ones first.
func joined(parts []string, n int) []string {
	l := []string{""}
	for from := 0; n > 0; n-- {
		to := len(l)
		for ; from < to; from++ {
			for _, p := range parts {
				l = append(l, l[from]+p)
			}
		}
	}
	return l
}

// checkAll holds texts against the chapter's words, and tells how many of them are patterns.
func checkAll(t *testing.T, l []string, extended bool, least int) {
	t.Helper()
	patterns := 0
	for _, s := range l {
		if checkTold(t, s, extended) {
			patterns++
		}
	}
	if patterns < least {
		t.Errorf("only %d of %d texts are patterns", patterns, len(l))
	}
}

func TestShortBasicTexts(t *testing.T) {
	checkAll(t, joined(strings.Split("a*^$", ""), 6), false, 1000)
	checkAll(t, joined([]string{"\\(", "\\)", "^", "$", "*", "a"}, 6), false, 1000)
	checkAll(t, joined([]string{"\\(", "\\)", "\\{2\\}", "*", "^", "$"}, 5), false, 100)
	checkAll(t, joined(strings.Split("\\()a*", ""), 6), false, 1000)
	checkAll(t, joined(strings.Split("\\{}1,a", ""), 6), false, 1000)
	checkAll(t, joined([]string{"a", "\\{", "\\}", "1", "2", ",", "0"}, 5), false, 100)
	checkAll(t, joined([]string{"[", "]", "^", "-", "a", "\\", "*"}, 5), false, 500)
	checkAll(t, joined([]string{".", "\\", "n", "/", "$", "\n"}, 5), false, 500)
	checkAll(t, joined([]string{"(", ")", "|", "+", "?", "{", "}", "*"}, 4), false, 500)
}

func TestShortExtendedTexts(t *testing.T) {
	checkAll(t, joined([]string{"(", ")", "|", "a", "*"}, 7), true, 500)
	checkAll(t, joined([]string{"(", ")", "|", "^", "$", "*"}, 6), true, 500)
	checkAll(t, joined(strings.Split("a*+?^$|", ""), 5), true, 1000)
	checkAll(t, joined(strings.Split("{}1,a", ""), 7), true, 1000)
	checkAll(t, joined([]string{"a", "{", "}", "1", "2", ",", "0"}, 5), true, 50)
	checkAll(t, joined([]string{"(", ")", "{2}", "{2,}", "|", "^", "a", "+"}, 4), true, 100)
	checkAll(t, joined(strings.Split("\\()a|", ""), 6), true, 500)
	checkAll(t, joined([]string{"[", "]", "^", "-", "a", "\\", "|", "("}, 4), true, 100)
	checkAll(t, joined([]string{".", "\\", "n", "/", "$", "\n"}, 5), true, 500)
}

// numbers is a source of numbers that are the same each time.
type numbers struct{ x uint64 }

func (r *numbers) below(n int) int {
	r.x ^= r.x << 13
	r.x ^= r.x >> 7
	r.x ^= r.x << 17
	return int(r.x >> 33 % uint64(n))
}

func numbersOf(seed int) *numbers {
	return &numbers{uint64(seed)*0x9e3779b97f4a7c15 + 1}
}

// arbitrary is a text of n bytes of an alphabet, another one for each seed.
func arbitrary(seed, n int, alphabet string) string {
	r := numbersOf(seed)
	b := make([]byte, n)
	for i := range b {
		b[i] = alphabet[r.below(len(alphabet))]
	}
	return string(b)
}

func TestArbitraryTexts(t *testing.T) {
	plain := "abcdefgxyzABC0123456789"
	patterns := 0
	for seed := range 6000 {
		for _, alphabet := range []string{run(0, 255), plain + "*^$.\\[]-/n", plain + "()|*+?^$.", plain + "\\\\\\(){}**", "ab(|)*{1,2}", "a\\(\\)\\{1,\\}*^$", run(32, 126)} {
			text := arbitrary(seed, 1+seed%24, alphabet)
			if checkTold(t, text, false) {
				patterns++
			}
			if checkTold(t, text, true) {
				patterns++
			}
		}
	}
	if patterns < 6000 {
		t.Errorf("only %d texts were patterns", patterns)
	}
}

// parts are what patterns are made of, right and wrong.
func parts(extended bool) []string {
	l := []string{"a", "b", "ab", ".", "*", "^", "$", "[a-c]", "[^x]", "[]]", "[[:digit:]]", "\\n", "\\.", "\\*", "\\^", "\\$", "\\\\", "\\/", "\n", "\x00", "\xff", "]"}
	if extended {
		return append(l, "(", "(", "(", ")", ")", ")", "|", "|", "+", "?", "{2}", "{1,}", "{0,20}", "\\(", "\\)", "\\|", "\\+", "}")
	}
	return append(l, "\\(", "\\(", "\\(", "\\)", "\\)", "\\)", "\\{2\\}", "\\{1,\\}", "\\{0,20\\}", "(", ")", "|", "+", "?", "{", "}")
}

func TestArbitraryParts(t *testing.T) {
	for _, extended := range []bool{false, true} {
		l := parts(extended)
		patterns := 0
		for seed := range 40000 {
			r := numbersOf(seed)
			text := ""
			for range 1 + r.below(9) {
				text += l[r.below(len(l))]
			}
			if checkTold(t, text, extended) {
				patterns++
			}
		}
		if patterns < 3000 {
			t.Errorf("only %d texts were patterns", patterns)
		}
	}
}

// maker makes patterns of a tree, in both syntaxes at once.
type maker struct {
	*numbers
	groups int
}

// made is a tree, and what it is written as.
type made struct {
	tree            api.Node
	basic, extended string
}

// atom is a byte, a set, or a group. first tells whether it stands where a * is itself.
func (m *maker) atom(deep int, first bool) made {
	if deep > 0 && m.groups < 9 && m.below(4) == 0 {
		m.groups++
		number := m.groups
		x := m.row(deep - 1)
		return made{group(number, x.tree), "\\(" + x.basic + "\\)", "(" + x.extended + ")"}
	}
	switch m.below(8) {
	case 0:
		return made{dot(), ".", "."}
	case 1:
		return made{one("abc"), "[abc]", "[a-c]"}
	case 2:
		return made{of(others("]\n")), "[^]]", "[^]]"}
	case 3:
		return made{one("\n"), "\\n", "\n"}
	case 4:
		if first {
			return made{one("*"), "*", "\\*"}
		}
		return made{one("*"), "\\*", "\\*"}
	}
	c := string([]byte{byte(m.below(256))})
	return made{one(c), escaped(c, "\\.[*^$"), escaped(c, "\\.[()|*+?{^$")}
}

// escaped is a byte as it is written where some have a meaning of their own.
func escaped(c, special string) string {
	if strings.Contains(special, c) {
		return "\\" + c
	}
	return c
}

// piece is an atom, repeated or not.
func (m *maker) piece(deep int, first bool) made {
	x := m.atom(deep, first)
	low, more := m.below(21), m.below(21)
	l, h := strconv.Itoa(low), strconv.Itoa(min(low+more, 20))
	switch m.below(10) {
	case 0:
		return made{times(0, -1, x.tree), x.basic + "*", x.extended + "*"}
	case 1:
		return made{times(1, -1, x.tree), x.basic + "\\{1,\\}", x.extended + "+"}
	case 2:
		return made{times(0, 1, x.tree), x.basic + "\\{0,1\\}", x.extended + "?"}
	case 3:
		return made{times(low, low, x.tree), x.basic + "\\{" + l + "\\}", x.extended + "{" + l + "," + l + "}"}
	case 4:
		return made{times(low, -1, x.tree), x.basic + "\\{" + l + ",\\}", x.extended + "{" + l + ",}"}
	case 5:
		return made{times(low, min(low+more, 20), x.tree), x.basic + "\\{" + l + "," + h + "\\}", x.extended + "{" + l + "," + h + "}"}
	}
	return x
}

// row is a Begin or not, pieces, and an End or not.
func (m *maker) row(deep int) made {
	var kids []api.Node
	var x made
	add := func(y made) {
		kids = append(kids, y.tree)
		x.basic, x.extended = x.basic+y.basic, x.extended+y.extended
	}
	n := m.below(5)
	begins, ends := m.below(4) == 0, m.below(4) == 0
	if !begins && !ends {
		n++
	}
	if begins {
		add(made{begin(), "^", "^"})
	}
	for k := range n {
		add(m.piece(deep, k == 0))
	}
	if ends {
		add(made{end(), "$", "$"})
	}
	if x.tree = row(kids...); len(kids) == 1 {
		x.tree = kids[0]
	}
	return x
}

// P9.3: a basic pattern, and the extended one with the same meaning, have the same tree.
func TestBothSyntaxes(t *testing.T) {
	count := 0
	for seed := range 60000 {
		m := maker{numbers: numbersOf(seed)}
		x := m.row(3)
		if len(x.basic) > 200 || len(x.extended) > 200 {
			continue
		}
		count++
		checkTree(t, x.basic, false, x.tree)
		checkTree(t, x.extended, true, x.tree)
	}
	if count < 30000 {
		t.Errorf("only %d trees were short enough", count)
	}
	for _, c := range []struct{ basic, extended string }{
		{"a", "a"}, {"\\(a\\)", "(a)"}, {"*", "\\*"}, {"^*", "^\\*"}, {"\\(*\\)", "(\\*)"}, {"a^", "a\\^"}, {"$a", "\\$a"}, {"a|b", "a\\|b"}, {"(", "\\("}, {"a\\{2\\}", "a{2}"}, {"a\\{1,\\}", "a+"}, {"a\\{0,1\\}", "a?"}, {"a\\{0,\\}", "a*"}, {"a*", "a{0,}"}, {"{", "\\{"}, {"}", "}"}, {"}", "\\}"}, {"a+", "a\\+"}, {"a?", "a\\?"}, {"^a$", "^a$"}, {"\\(^a$\\)", "(^a$)"}, {"[a-c]\\.", "[abc]\\."}, {"$*", "\\$*"}, {"a^*", "a\\^*"}, {"^**$", "^\\**$"},
	} {
		n, e := pattern.Parse(c.basic, false)
		if e != api.OK {
			t.Fatalf("Parse(%q): %v", c.basic, e)
		}
		checkTree(t, c.extended, true, n)
	}
}

// alternatives makes extended patterns with bars, and their trees.
func (m *maker) alternatives(deep int) (string, api.Node) {
	var rows []api.Node
	text := ""
	for k := range 1 + m.below(3) {
		s, n := m.extendedRow(deep)
		if k > 0 {
			text += "|"
		}
		text += s
		rows = append(rows, n)
	}
	if len(rows) == 1 {
		return text, rows[0]
	}
	return text, bars(rows...)
}

func (m *maker) extendedRow(deep int) (string, api.Node) {
	var kids []api.Node
	text := ""
	for range 1 + m.below(3) {
		s, n := m.extendedPiece(deep)
		text += s
		kids = append(kids, n)
	}
	if len(kids) == 1 {
		return text, kids[0]
	}
	return text, row(kids...)
}

func (m *maker) extendedPiece(deep int) (string, api.Node) {
	switch m.below(8) {
	case 0:
		return "^", begin()
	case 1:
		return "$", end()
	case 2, 3, 4:
		if deep > 0 && m.groups < 9 {
			m.groups++
			number := m.groups
			s, n := m.alternatives(deep - 1)
			if m.below(2) == 0 {
				return "(" + s + ")?", times(0, 1, group(number, n))
			}
			return "(" + s + ")", group(number, n)
		}
	}
	x := m.piece(0, false)
	return x.extended, x.tree
}

func TestMadeAlternatives(t *testing.T) {
	count := 0
	for seed := range 20000 {
		m := maker{numbers: numbersOf(seed)}
		text, n := m.alternatives(4)
		if len(text) > 200 {
			checkError(t, text, true)
			continue
		}
		count++
		checkTree(t, text, true, n)
	}
	if count < 10000 {
		t.Errorf("only %d texts were short enough", count)
	}
}

// A pattern of which a byte was dropped, doubled or changed is told by the chapter's words.
func TestChangedPatterns(t *testing.T) {
	for seed := range 6000 {
		m := maker{numbers: numbersOf(seed)}
		x := m.row(2)
		if len(x.basic) > 30 || len(x.extended) > 30 {
			continue
		}
		at := m.below(min(len(x.basic), len(x.extended)))
		c := "*\\()[]|{}^$+?a"[m.below(14):][:1]
		for _, text := range []string{x.basic, x.extended} {
			checkBoth(t, text[:at]+text[at+1:])
			checkBoth(t, text[:at]+text[at:at+1]+text[at:])
			checkBoth(t, text[:at]+c+text[at+1:])
			checkBoth(t, text[:at]+c+text[at:])
			checkBoth(t, text[:at])
		}
	}
}

func TestSize(t *testing.T) {
	a := one("a")
	odd := api.Node{Kind: 99, Number: -1, Min: -5, Max: -7}
	wide := row(make([]api.Node, 1<<16)...)
	for _, c := range []struct {
		n    api.Node
		want int
	}{
		{api.Node{}, 1}, {a, 1}, {begin(), 1}, {end(), 1}, {dot(), 1}, {odd, 1},
		{row(), 1}, {bars(), 1}, {api.Node{Kind: api.Group}, 1}, {api.Node{Kind: api.Repeat}, 1},
		{row(a), 2}, {row(a, a), 3}, {row(a, a, a), 4}, {bars(a, a), 3}, {bars(a, a, a), 4}, {group(1, a), 2}, {times(2, 20, a), 2}, {times(0, 0, a), 2}, {times(0, -1, group(1, a)), 3},
		{row(begin(), times(0, -1, group(1, bars(a, row(a, a)))), end()), 10}, {bars(row(a, a), row(a, a)), 7}, {group(1, group(2, row(a, a))), 5},
		{row(row(row(a))), 4}, {row(api.Node{}, odd), 3}, {wide, 1<<16 + 1}, {row(wide, wide), 2<<16 + 3},
		{api.Node{Kind: api.Row, Kids: []api.Node{a, a, a}[:1]}, 2}, {api.Node{Kind: api.Row, Kids: []api.Node{a, a, a}[:0]}, 1},
	} {
		if n := pattern.Size(c.n); n != c.want {
			t.Errorf("Size of %d with %d kids: %d; want %d", c.n.Kind, len(c.n.Kids), n, c.want)
		}
	}
	for _, kind := range []api.NodeKind{api.Nothing, api.One, api.Row, api.Either, api.Repeat, api.Group, api.Begin, api.End, -1, 8} {
		n := api.Node{Kind: kind}
		if pattern.Size(n) != 1 {
			t.Errorf("Size of kind %d: %d", kind, pattern.Size(n))
		}
	}
}

// Nodes may be nested as deeply as the bound lets them.
func TestDeepTrees(t *testing.T) {
	n := one("a")
	for k := range 1<<16 - 1 {
		n = api.Node{Kind: []api.NodeKind{api.Row, api.Group, api.Repeat, api.Either}[k%4], Kids: []api.Node{n}}
	}
	if size := pattern.Size(n); size != 1<<16 {
		t.Errorf("Size: %d", size)
	}
}

// collect are all nodes of a tree.
func collect(n *api.Node) []*api.Node {
	l := []*api.Node{n}
	for k := range n.Kids {
		l = append(l, collect(&n.Kids[k])...)
	}
	return l
}

// inputs are texts for every call: patterns, errors, and others.
func inputs() []string {
	l := append(basicErrors(), extendedErrors()...)
	for _, c := range append(basicExamples(), extendedExamples()...) {
		l = append(l, c.text, c.text+"x", c.text+c.text)
	}
	return append(l, run(0, 255), run(33, 126), run(128, 255), strings.Repeat("\\", 200), strings.Repeat("(", 200), strings.Repeat("a|", 100), strings.Repeat("*", 200), strings.Repeat("[", 200), strings.Repeat("a*", 100), strings.Repeat("\\(", 1<<16), strings.Repeat("(", 1<<20))
}

// Results are new memory: whatever is done to one, a later one is as it was, and no two lists of one share any.
func TestResultsAreNew(t *testing.T) {
	for _, text := range inputs() {
		for _, extended := range []bool{false, true} {
			n, e := pattern.Parse(text, extended)
			if e != api.OK {
				continue
			}
			again, _ := pattern.Parse(text, extended)
			l := collect(&n)
			for k, x := range l {
				x.Number, x.Min, x.Max, x.Set = k, -k, k*k, api.Set{7}
				x.Kids = append(x.Kids, api.Node{Number: -1 - k})
			}
			for k, x := range l {
				if x.Number != k || x.Kids[len(x.Kids)-1].Number != -1-k {
					t.Fatalf("%q: two lists share memory", text)
				}
			}
			checkTree(t, text, extended, again)
		}
	}
}

// Size leaves a tree as it is, also what is behind the length of a list.
func TestArgumentsStay(t *testing.T) {
	kids := []api.Node{one("a"), group(1, one("b")), one("c")}
	n := api.Node{Kind: api.Row, Kids: kids[:2]}
	if pattern.Size(n) != 4 || !same(row(kids...), row(one("a"), group(1, one("b")), one("c"))) {
		t.Error("Size changed a tree")
	}
}

// answer is what a text is answered.
type answer struct {
	n    api.Node
	e    api.Errno
	size int
}

func ask(text string, extended bool) answer {
	n, e := pattern.Parse(text, extended)
	return answer{n, e, pattern.Size(n)}
}

func (a answer) is(b answer) bool {
	return a.e == b.e && a.size == b.size && same(a.n, b.n)
}

// P1 and P2 of the document: whatever is given, no call panics, and a call answers the same whatever was asked ahead of it, and on however many sides at once.
func TestTotalAndSame(t *testing.T) {
	l := inputs()
	var first []answer
	for k, s := range l {
		first = append(first, ask(s, k%2 == 0))
	}
	for k := len(l) - 1; k >= 0; k-- {
		if !ask(l[k], k%2 == 0).is(first[k]) {
			t.Errorf("the same text is answered otherwise: %q", short(l[k]))
		}
	}
	var sides sync.WaitGroup
	for side := range 8 {
		sides.Go(func() {
			for k := range l {
				i := (k*3 + side*11) % len(l)
				if !ask(l[i], i%2 == 0).is(first[i]) {
					t.Errorf("the same text is answered otherwise: %q", short(l[i]))
				}
			}
		})
	}
	sides.Wait()
}
