package match_test

import (
	"math"
	"strings"
	"testing"

	"headgate/api"
	"headgate/match"
	"headgate/pattern"
)

// setOf is the set with the bytes of a text.
func setOf(text string) api.Set {
	var s api.Set
	for _, c := range []byte(text) {
		s[c/64] |= 1 << (c % 64)
	}
	return s
}

func one(text string) api.Node    { return api.Node{Kind: api.One, Set: setOf(text)} }
func begin() api.Node             { return api.Node{Kind: api.Begin} }
func end() api.Node               { return api.Node{Kind: api.End} }
func nothing() api.Node           { return api.Node{Kind: api.Nothing} }
func row(l ...api.Node) api.Node  { return api.Node{Kind: api.Row, Kids: l} }
func bars(l ...api.Node) api.Node { return api.Node{Kind: api.Either, Kids: l} }

// dot is any byte.
func dot() api.Node {
	return api.Node{Kind: api.One, Set: api.Set{math.MaxUint64, math.MaxUint64, math.MaxUint64, math.MaxUint64}}
}

func group(number int, kids ...api.Node) api.Node {
	return api.Node{Kind: api.Group, Number: number, Kids: kids}
}

func times(least, most int, kids ...api.Node) api.Node {
	return api.Node{Kind: api.Repeat, Min: least, Max: most, Kids: kids}
}

// parsed is the tree of an extended pattern.
func parsed(t testing.TB, text string) api.Node {
	t.Helper()
	n, e := pattern.Parse(text, true)
	if e != api.OK {
		t.Fatalf("Parse(%q): %v", text, e)
	}
	return n
}

// example is where a pattern matches a text, from its beginning on, which begins a line: no spans if it doesn't.
type example struct {
	pattern, text string
	spans         []int
}

func checkExamples(t *testing.T, l []example) {
	t.Helper()
	for _, c := range l {
		n := parsed(t, c.pattern)
		if c.spans == nil {
			checkFind(t, n, c.text, 0, true, api.Match{}, false)
			continue
		}
		checkFind(t, n, c.text, 0, true, spans(c.spans...), true)
		if len(c.text) < 20 {
			checkTold(t, n, c.text)
		}
	}
}

// P10.1 and P10.2: leftmost, then longest.
func TestWholes(t *testing.T) {
	checkExamples(t, []example{
		{"a", "a", []int{0, 1}}, {"a", "ba", []int{1, 2}}, {"a", "b", nil}, {"a", "", nil}, {"abc", "ababcd", []int{2, 5}}, {"abc", "abab", nil},
		{"b*", "abb", []int{0, 0}}, {"b*", "", []int{0, 0}}, {"b+", "abbc", []int{1, 3}}, {"b?", "bb", []int{0, 1}}, {"a{2,3}", "aaaa", []int{0, 3}}, {"a{2}", "aaaa", []int{0, 2}}, {"a{2,}", "baaaa", []int{1, 5}}, {"a{5}", "aaaa", nil}, {"a{0}", "aa", []int{0, 0}},
		{"a|ab|abc", "xabcd", []int{1, 4}}, {"abc|ab|a", "xabcd", []int{1, 4}}, {"ab|b|bcdef", "abcdef", []int{0, 2}}, {"b|a", "ab", []int{0, 1}}, {"x|y|z", "abc", nil},
		{"^a", "ba", nil}, {"^a", "aa", []int{0, 1}}, {"a$", "aba", []int{2, 3}}, {"a$", "ab", nil}, {"^$", "", []int{0, 0}}, {"^$", "a", nil}, {"$", "ab", []int{2, 2}}, {"^", "ab", []int{0, 0}}, {"^^a", "a", []int{0, 1}}, {"a$$", "a", []int{0, 1}}, {"a^b", "ab", nil}, {"a$b", "ab", nil}, {"$^", "", []int{0, 0}}, {"$^", "a", nil}, {"a^", "\na", nil}, {"a$", "a\n", nil}, {"b|^a", "ab", []int{0, 1}}, {"b$|a", "bab", []int{1, 2}},
		{"[^b]+", "bacb", []int{1, 3}}, {".*", "a\nb\x00\xff", []int{0, 5}}, {"\xff", "\x7f\xff", []int{1, 2}}, {"\x80+", "\x00\x80\x80\x81", []int{1, 3}}, {"\x00", "a\x00", []int{1, 2}}, {"[^a]", "a\xe9", []int{1, 2}}, {"[\x80-\xff]*", "\x80\xc0\xff\x7f", []int{0, 3}},
	})
}

// P10.1: what the groups match.
func TestGroups(t *testing.T) {
	checkExamples(t, []example{
		{"(a|ab)(c|bcd)(d*)", "xabcd", []int{1, 5, 1, 3, 3, 4, 4, 5}}, {"(a|ab)(bcd|c)(d*)", "abcd", []int{0, 4, 0, 2, 2, 3, 3, 4}}, {"(a*)(ab)*", "aab", []int{0, 3, 0, 1, 1, 3}}, {"(a*)(a*)", "aa", []int{0, 2, 0, 2, 2, 2}}, {"(a?)(ab)?", "ab", []int{0, 2, 0, 0, 0, 2}}, {"(a*)(a+)", "aaa", []int{0, 3, 0, 2, 2, 3}}, {"(a?)(a?)(a?)", "aa", []int{0, 2, 0, 1, 1, 2, 2, 2}},
		{"(a|b)*", "abx", []int{0, 2, 1, 2}}, {"(a*)*", "aab", []int{0, 2, 0, 2}}, {"(a*)*", "b", []int{0, 0, -1, -1}}, {"(a*)+", "b", []int{0, 0, 0, 0}}, {"(a|ab|b)*", "ab", []int{0, 2, 0, 2}}, {"(a|ab|b){2}", "ab", []int{0, 2, 1, 2}}, {"(a|ab|b){3}", "ab", nil}, {"(a*){2}", "aa", []int{0, 2, 2, 2}}, {"(a*){2}", "b", []int{0, 0, 0, 0}}, {"(a|b){2,3}", "abab", []int{0, 3, 2, 3}},
		{"((a)|b)*", "ab", []int{0, 2, 1, 2, 0, 1}}, {"((a)|(b))*", "aba", []int{0, 3, 2, 3, 2, 3, 1, 2}}, {"((a)(b)?)*", "aba", []int{0, 3, 2, 3, 2, 3, 1, 2}}, {"(x(a)?)*", "xax", []int{0, 3, 2, 3, 1, 2}},
		{"(a)|b", "b", []int{0, 1, -1, -1}}, {"(a)|(a)", "a", []int{0, 1, 0, 1, -1, -1}}, {"((a)|(ab))(c|bc)", "abc", []int{0, 3, 0, 2, -1, -1, 0, 2, 2, 3}}, {"((ab)|(a.))", "ab", []int{0, 2, 0, 2, 0, 2, -1, -1}}, {"(a.)|(ab)", "ab", []int{0, 2, 0, 2, -1, -1}}, {"(a)|(ab)", "ab", []int{0, 2, -1, -1, 0, 2}},
		{"((((((((a))))))))", "a", []int{0, 1, 0, 1, 0, 1, 0, 1, 0, 1, 0, 1, 0, 1, 0, 1, 0, 1}}, {"(a)(b)(c)(d)(e)(f)(g)(h)(i)", "abcdefghi", []int{0, 9, 0, 1, 1, 2, 2, 3, 3, 4, 4, 5, 5, 6, 6, 7, 7, 8, 8, 9}},
		{"(^)a", "a", []int{0, 1, 0, 0}}, {"a($)", "aa", []int{1, 2, 2, 2}}, {"(aaa|aa|abb|b){0,2}", "aaabb", []int{0, 5, 2, 5}}, {"(aaa|aa|abb|b){2}", "aaabb", []int{0, 5, 2, 5}}, {"(aaa|aa|abb|b){2,3}", "aaabb", []int{0, 5, 4, 5}}, {"(aaa|aa|abb|b){3,}", "aaabb", []int{0, 5, 4, 5}}, {"(aaa|aa|a){3,}(b|ab)", "aaaab", []int{0, 5, 3, 4, 4, 5}},
		{"(^|a)+", "aa", []int{0, 2, 1, 2}}, {"(^|a){3}", "aa", []int{0, 0, 0, 0}}, {"(^|a){3}b", "aab", nil}, {"(a|$){3}", "aa", []int{0, 2, 2, 2}}, {"(^a|b)*", "ab", []int{0, 2, 1, 2}}, {"(^|x)(a)", "a", []int{0, 1, 0, 0, 0, 1}},
	})
}

// The numbers of groups that no pattern has, and the same number twice.
func TestNumbers(t *testing.T) {
	a, b := one("a"), one("b")
	for _, c := range []struct {
		n     api.Node
		spans []int
	}{
		{group(0, a), []int{0, 1}}, {group(-1, a), []int{0, 1}}, {group(10, a), []int{0, 1}}, {group(math.MaxInt, a), []int{0, 1}}, {group(math.MinInt, a), []int{0, 1}}, {group(0, group(2, a)), []int{0, 1, -1, -1, 0, 1}}, {group(10, row(a, group(1, b))), []int{0, 2, 1, 2}},
		{row(group(1, a), group(1, b)), []int{0, 2, 1, 2}}, {row(group(1, a), group(1, nothing()), b), []int{0, 2, 1, 1}}, {group(1, row(a, group(1, b))), []int{0, 2, 1, 2}}, {group(1, row(group(1, a), b)), []int{0, 2, 0, 1}}, {row(group(1, group(1, a)), group(2, b)), []int{0, 2, 0, 1, 1, 2}}, {row(group(2, a), group(1, b)), []int{0, 2, 1, 2, 0, 1}},
		{row(bars(group(1, b), a), group(1, b)), []int{0, 2, 1, 2}}, {row(group(1, a), bars(row(b, nothing()), group(1, b))), []int{0, 2, 0, 1}}, {times(0, -1, bars(group(1, a), group(1, b))), []int{0, 2, 1, 2}}, {times(0, -1, bars(group(1, a), b)), []int{0, 2, 0, 1}},
		{group(9, row(a, b)), []int{0, 2, -1, -1, -1, -1, -1, -1, -1, -1, -1, -1, -1, -1, -1, -1, -1, -1, 0, 2}},
	} {
		checkFind(t, c.n, "ab", 0, true, spans(c.spans...), true)
		checkTold(t, c.n, "ab")
	}
}

// Trees that no pattern has.
func TestOddTrees(t *testing.T) {
	a, b := one("a"), one("b")
	for _, c := range []struct {
		n     api.Node
		text  string
		spans []int
	}{
		{nothing(), "a", []int{0, 0}}, {api.Node{Kind: -1}, "a", []int{0, 0}}, {api.Node{Kind: 8, Kids: []api.Node{a}}, "a", []int{0, 0}}, {api.Node{Kind: math.MaxInt, Min: 3}, "", []int{0, 0}}, {api.Node{Kind: api.Nothing, Kids: []api.Node{group(1, a)}}, "a", []int{0, 0}}, {api.Node{Kind: 99, Number: 1, Kids: []api.Node{group(1)}}, "a", []int{0, 0}}, {row(a, api.Node{Kind: 9}, b), "ab", []int{0, 2}},
		{row(), "a", []int{0, 0}}, {bars(), "a", nil}, {bars(), "", nil}, {row(a, bars()), "a", nil}, {bars(bars(), a), "a", []int{0, 1}}, {row(a), "a", []int{0, 1}}, {bars(a), "a", []int{0, 1}}, {row(row(), a, row(row())), "a", []int{0, 1}},
		{group(1), "a", []int{0, 0, 0, 0}}, {group(1, a, b), "ab", []int{0, 1, 0, 1}}, {group(1, a, group(2, b)), "ab", []int{0, 1, 0, 1}}, {row(a, group(1)), "a", []int{0, 1, 1, 1}},
		{times(0, -1), "a", []int{0, 0}}, {times(2, 3), "a", []int{0, 0}}, {times(2, 3, a, b), "aab", []int{0, 2}}, {times(0, -1, a, group(1, b)), "ab", []int{0, 1}}, {times(math.MaxInt, -1), "a", []int{0, 0}},
		{api.Node{Kind: api.One, Set: setOf("a"), Kids: []api.Node{group(1, b)}}, "a", []int{0, 1}}, {one(""), "a", nil}, {api.Node{Kind: api.Begin, Kids: []api.Node{group(1)}}, "a", []int{0, 0}}, {api.Node{Kind: api.End, Kids: []api.Node{group(1)}}, "a", []int{1, 1}},
	} {
		if c.spans == nil {
			checkFind(t, c.n, c.text, 0, true, api.Match{}, false)
		} else {
			checkFind(t, c.n, c.text, 0, true, spans(c.spans...), true)
		}
		checkTold(t, c.n, c.text)
	}
}

// Rounds that no pattern asks for, and rounds that match the empty text.
func TestRounds(t *testing.T) {
	a := one("a")
	may := bars(row(), a)
	for _, c := range []struct {
		n     api.Node
		spans []int // in aaa
	}{
		{times(-1, -1, a), []int{0, 3}}, {times(math.MinInt, math.MinInt, a), []int{0, 3}}, {times(-5, 2, a), []int{0, 2}}, {times(2, -7, a), []int{0, 3}}, {times(0, 0, a), []int{0, 0}}, {times(1, 0, a), nil}, {times(-1, 0, a), []int{0, 0}}, {times(3, 2, a), nil}, {times(2, 1, a), nil}, {times(4, -1, a), nil}, {times(3, 3, a), []int{0, 3}}, {times(math.MaxInt, math.MaxInt, a), nil}, {times(0, math.MaxInt, a), []int{0, 3}}, {times(math.MaxInt, -1, a), nil},
		{times(1, 0, may), []int{0, 0}}, {times(3, 2, may), []int{0, 2}}, {times(5, 1, may), []int{0, 1}}, {times(5, -1, may), []int{0, 3}}, {times(math.MaxInt, -1, may), []int{0, 3}}, {times(math.MaxInt, 2, may), []int{0, 2}}, {times(5, 5, may), []int{0, 3}}, {times(0, 2, may), []int{0, 2}},
		{times(0, -1, bars()), []int{0, 0}}, {times(-1, 0, bars()), []int{0, 0}}, {times(1, -1, bars()), nil}, {times(1, 1, row()), []int{0, 0}}, {times(0, -1, row()), []int{0, 0}},
		{times(2, 2, times(2, 2, a)), nil}, {times(2, 2, times(1, 2, a)), []int{0, 3}}, {times(0, -1, times(2, 2, a)), []int{0, 2}}, {times(0, -1, times(0, -1, a)), []int{0, 3}}, {times(1, 1, times(3, -1, a)), []int{0, 3}}, {times(2, -1, times(0, 1, a)), []int{0, 3}}, {times(7, 7, times(0, 1, a)), []int{0, 3}}, {times(2, 2, times(0, 0, a)), []int{0, 0}},
		{times(3, -1, group(1, may)), []int{0, 3, 2, 3}}, {times(4, -1, group(1, may)), []int{0, 3, 3, 3}}, {times(4, 3, group(1, may)), []int{0, 3, 3, 3}}, {times(2, 1, group(1, may)), []int{0, 1, 1, 1}}, {times(2, 1, group(1, bars(group(2), group(3, a)))), []int{0, 1, 1, 1, 1, 1, 0, 1}}, {times(3, 0, group(1, may)), []int{0, 0, 0, 0}}, {times(0, 0, group(1, a)), []int{0, 0, -1, -1}},
		{times(0, math.MaxInt, group(1, a)), []int{0, 3, 2, 3}}, {times(math.MaxInt, math.MaxInt, group(1, may)), []int{0, 3, 3, 3}}, {times(math.MaxInt, -1, group(1, may)), []int{0, 3, 3, 3}}, {times(math.MaxInt, -1, group(1, bars(end(), a))), []int{0, 3, 3, 3}}, {times(math.MinInt, math.MinInt, group(1, a)), []int{0, 3, 2, 3}},
		{times(2, -1, bars(begin(), a)), []int{0, 3}}, {times(4, -1, bars(begin(), a)), []int{0, 0}}, {times(4, -1, group(1, bars(end(), a))), []int{0, 3, 3, 3}}, {times(9, 3, group(1, bars(end(), a))), []int{0, 3, 3, 3}}, {times(9, 2, bars(end(), a)), []int{1, 3}}, {times(1, -1, begin()), []int{0, 0}}, {times(9, 9, end()), []int{3, 3}},
	} {
		if c.spans == nil {
			checkFind(t, c.n, "aaa", 0, true, api.Match{}, false)
		} else {
			checkFind(t, c.n, "aaa", 0, true, spans(c.spans...), true)
		}
		for _, text := range []string{"", "a", "aaa", "aab", "baa"} {
			checkTold(t, c.n, text)
		}
	}
}

// Where the text begins a line, and where it doesn't.
func TestBegins(t *testing.T) {
	for _, text := range []string{"^a", "^", "a|^b", "(^)*a", "^^", "(^a)+", "b?^a", "$^", "^$", "(^|b)a", "(^|b){2}a", "(a|^){2,}"} {
		n := parsed(t, text)
		for _, s := range []string{"", "a", "b", "aa", "ab", "ba", "a\na"} {
			checkTold(t, n, s)
		}
	}
	checkFind(t, parsed(t, "^a"), "aa", 0, false, api.Match{}, false)
	checkFind(t, parsed(t, "^a"), "aa", 1, true, api.Match{}, false)
	checkFind(t, parsed(t, "(^|b)a"), "aba", 0, false, spans(1, 3, 1, 2), true)
	checkIs(t, begin(), "", 0, 0, false, false)
	checkIs(t, begin(), "", 0, 0, true, true)
	checkIs(t, begin(), "a", 1, 1, true, false)
	checkIs(t, end(), "a", 1, 1, false, true)
	checkIs(t, end(), "a", 0, 0, false, false)
	checkIs(t, row(end(), begin()), "", 0, 0, true, true)
}

// A from is an index up to the length; what is ahead of it can't match, but begins a line all the same.
func TestFrom(t *testing.T) {
	n := parsed(t, "(a)b*")
	for _, c := range []struct {
		from  int
		spans []int
	}{
		{math.MinInt, nil}, {-1, nil}, {0, []int{1, 4, 1, 2}}, {1, []int{1, 4, 1, 2}}, {2, []int{4, 5, 4, 5}}, {4, []int{4, 5, 4, 5}}, {5, nil}, {6, nil}, {math.MaxInt, nil},
	} {
		if c.spans == nil {
			checkFind(t, n, "babba", c.from, true, api.Match{}, false)
		} else {
			checkFind(t, n, "babba", c.from, true, spans(c.spans...), true)
		}
	}
	empty := parsed(t, "x*")
	checkFind(t, empty, "ab", 2, true, spans(2, 2), true)
	checkFind(t, empty, "ab", 3, true, api.Match{}, false)
	checkFind(t, empty, "", 0, false, spans(0, 0), true)
	checkFind(t, empty, "", 1, false, api.Match{}, false)
}

// Is takes indexes only, in order.
func TestIsIndexes(t *testing.T) {
	any, empty := parsed(t, ".*"), nothing()
	for _, c := range []struct {
		from, to  int
		all, none bool
	}{
		{0, 0, true, true}, {0, 3, true, false}, {3, 3, true, true}, {1, 2, true, false}, {2, 1, false, false}, {3, 0, false, false}, {-1, 0, false, false}, {-1, -1, false, false}, {0, 4, false, false}, {3, 4, false, false}, {4, 4, false, false}, {4, 3, false, false}, {math.MinInt, math.MaxInt, false, false}, {math.MaxInt, math.MinInt, false, false}, {math.MaxInt, math.MaxInt, false, false}, {math.MinInt, math.MinInt, false, false}, {0, math.MaxInt, false, false},
	} {
		checkIs(t, any, "abc", c.from, c.to, true, c.all)
		checkIs(t, empty, "abc", c.from, c.to, true, c.none)
	}
}

// Find takes texts of up to 1024 bytes; Is takes longer ones, too.
func TestLengths(t *testing.T) {
	full, more := strings.Repeat("a", 1024), strings.Repeat("a", 1025)
	for _, c := range []struct {
		pattern string
		spans   []int
		all     bool // whether it matches the longer text as a whole
	}{
		{"a*", []int{0, 1024}, true}, {"(a*)a", []int{0, 1024, 0, 1023}, true}, {"a$", []int{1023, 1024}, false}, {"$", []int{1024, 1024}, false}, {"(a|aa)*", []int{0, 1024, 1022, 1024}, true}, {"(aa)*", []int{0, 1024, 1022, 1024}, false}, {"(a|aa){20}", []int{0, 40, 38, 40}, false}, {"b*", []int{0, 0}, false},
	} {
		n := parsed(t, c.pattern)
		checkFind(t, n, full, 0, true, spans(c.spans...), true)
		for _, from := range []int{0, 1, 1024, 1025} {
			checkFind(t, n, more, from, true, api.Match{}, false)
		}
		checkIs(t, n, more, 0, 1025, true, c.all)
	}
	checkFind(t, nothing(), full, 1024, true, spans(1024, 1024), true)
	checkFind(t, nothing(), full, 1025, true, api.Match{}, false)
	checkFind(t, nothing(), more, 0, true, api.Match{}, false)
	checkIs(t, nothing(), more, 1025, 1025, true, true)
	checkIs(t, end(), more, 1024, 1024, true, false)
	checkIs(t, parsed(t, "a{20}"), more, 1005, 1025, true, true)
	checkIs(t, parsed(t, "a{20}$"), more, 1004, 1024, true, false)
	checkFind(t, parsed(t, "b"), full[1:]+"b", 0, true, spans(1023, 1024), true)
	for at := range 1024 {
		checkFind(t, parsed(t, "(b)c?"), full[:at]+"b"+full[at+1:], 0, true, spans(at, at+1, at, at+1), true)
	}
}

// Each byte is in the sets that have it, and in no others.
func TestBytes(t *testing.T) {
	for c := range 256 {
		s := string([]byte{byte(c)})
		text := string([]byte{byte(c + 1)}) + s + s
		checkFind(t, times(1, -1, one(s)), text, 0, true, spans(1, 3), true)
		checkFind(t, one(s), text[:1], 0, true, api.Match{}, false)
		checkFind(t, dot(), s, 0, false, spans(0, 1), true)
		for word := range 4 {
			n := api.Node{Kind: api.One}
			n.Set[word] = math.MaxUint64
			checkIs(t, n, s, 0, 1, true, c/64 == word)
		}
	}
	if m, ok := match.Find(api.Node{}, "", 0, false); !ok || m != spans(0, 0) {
		t.Error("a tree of nothing", m, ok)
	}
}
