package replace_test

import (
	"math"
	"strings"
	"testing"

	"headgate/api"
	"headgate/pattern"
	"headgate/replace"
)

// parsed is the tree of an extended pattern.
func parsed(t testing.TB, text string) api.Node {
	t.Helper()
	n, e := pattern.Parse(text, true)
	if e != api.OK {
		t.Fatalf("Parse(%q): %v", text, e)
	}
	return n
}

// pieces are those of a template.
func pieces(t testing.TB, text string) []api.Piece {
	t.Helper()
	l, e := replace.Parse(text)
	if e != api.OK {
		t.Fatalf("Parse(%q): %v", text, e)
	}
	return l
}

func group(number int) api.Piece { return api.Piece{N: number} }

// P11.1: templates, and their pieces.
func TestParse(t *testing.T) {
	for _, c := range []struct {
		text string
		want []api.Piece
	}{
		{"", nil}, {"a", []api.Piece{plain("a")}}, {"abc", []api.Piece{plain("abc")}},
		{"&", []api.Piece{group(0)}}, {"&a", []api.Piece{group(0), plain("a")}}, {"a&", []api.Piece{plain("a"), group(0)}}, {"&&&", []api.Piece{group(0), group(0), group(0)}}, {"a&b&c", []api.Piece{plain("a"), group(0), plain("b"), group(0), plain("c")}}, {"<&>", []api.Piece{plain("<"), group(0), plain(">")}},
		{`\1`, []api.Piece{group(1)}}, {`\2`, []api.Piece{group(2)}}, {`\3`, []api.Piece{group(3)}}, {`\4`, []api.Piece{group(4)}}, {`\5`, []api.Piece{group(5)}}, {`\6`, []api.Piece{group(6)}}, {`\7`, []api.Piece{group(7)}}, {`\8`, []api.Piece{group(8)}}, {`\9`, []api.Piece{group(9)}}, {`\0`, []api.Piece{plain("0")}}, {`\10`, []api.Piece{group(1), plain("0")}}, {`\12`, []api.Piece{group(1), plain("2")}}, {"1", []api.Piece{plain("1")}},
		{`\2\1`, []api.Piece{group(2), group(1)}}, {`\2-\1`, []api.Piece{group(2), plain("-"), group(1)}}, {`\2 and \1`, []api.Piece{group(2), plain(" and "), group(1)}}, {`\1\1`, []api.Piece{group(1), group(1)}}, {`&\9&`, []api.Piece{group(0), group(9), group(0)}},
		{`\n`, []api.Piece{plain("\n")}}, {"n", []api.Piece{plain("n")}}, {"\n", []api.Piece{plain("\n")}}, {`a\nb`, []api.Piece{plain("a\nb")}}, {"\\\n", []api.Piece{plain("\n")}}, {`\&`, []api.Piece{plain("&")}}, {`a\&b&`, []api.Piece{plain("a&b"), group(0)}}, {`\\`, []api.Piece{plain(`\`)}}, {`\\&`, []api.Piece{plain(`\`), group(0)}}, {`\\1`, []api.Piece{plain(`\1`)}}, {`\\\1`, []api.Piece{plain(`\`), group(1)}}, {`\\\\`, []api.Piece{plain(`\\`)}}, {`\\n`, []api.Piece{plain(`\n`)}}, {`\/\t\r`, []api.Piece{plain("/tr")}}, {`\a\0b`, []api.Piece{plain("a0b")}},
		{"\x00\x80\xff", []api.Piece{plain("\x00\x80\xff")}}, {"\\\x00\\\x80\\\xff", []api.Piece{plain("\x00\x80\xff")}}, {"\xff&\x00", []api.Piece{plain("\xff"), group(0), plain("\x00")}}, {"é&", []api.Piece{plain("é"), group(0)}},
	} {
		checkParse(t, c.text, c.want, api.OK)
	}
	for _, text := range []string{`\`, `a\`, `&\`, `\1\`, `\\\`, `ab&cd\`, `\n\`, "\x00\\", strings.Repeat(`\`, 9), strings.Repeat("a", 5000) + `\`} {
		checkParse(t, text, nil, api.ErrTemplate)
	}
}

// Each byte, alone, behind a \, and behind two of them.
func TestParseBytes(t *testing.T) {
	for c := range 256 {
		s := string([]byte{byte(c)})
		switch {
		case s == "&":
			checkParse(t, s, []api.Piece{group(0)}, api.OK)
			checkParse(t, `\`+s, []api.Piece{plain(s)}, api.OK)
		case s == `\`:
			checkParse(t, s, nil, api.ErrTemplate)
			checkParse(t, `\`+s, []api.Piece{plain(s)}, api.OK)
			checkParse(t, `\\`+s, nil, api.ErrTemplate)
			continue
		case s >= "1" && s <= "9":
			checkParse(t, s, []api.Piece{plain(s)}, api.OK)
			checkParse(t, `\`+s, []api.Piece{group(c - '0')}, api.OK)
		case s == "n":
			checkParse(t, s, []api.Piece{plain(s)}, api.OK)
			checkParse(t, `\`+s, []api.Piece{plain("\n")}, api.OK)
		default:
			checkParse(t, s, []api.Piece{plain(s)}, api.OK)
			checkParse(t, `\`+s, []api.Piece{plain(s)}, api.OK)
		}
		if s != "&" {
			checkParse(t, `\\`+s, []api.Piece{plain(`\` + s)}, api.OK)
		}
	}
}

// P11.1: the greatest number.
func TestGroups(t *testing.T) {
	for _, c := range []struct {
		l    []api.Piece
		want int
	}{
		{nil, 0}, {[]api.Piece{}, 0}, {[]api.Piece{group(0)}, 0}, {[]api.Piece{plain("a")}, 0}, {[]api.Piece{group(-7)}, 0}, {[]api.Piece{group(math.MinInt)}, 0}, {[]api.Piece{group(1)}, 1}, {[]api.Piece{group(9)}, 9}, {[]api.Piece{group(10)}, 10}, {[]api.Piece{group(3), group(math.MaxInt), group(4)}, math.MaxInt}, {[]api.Piece{group(2), plain("9"), group(5), group(0), group(4)}, 5}, {[]api.Piece{group(5), group(2)}, 5}, {[]api.Piece{group(2), group(5)}, 5}, {[]api.Piece{{Text: "x", N: 3}}, 3}, {[]api.Piece{{}}, 0},
	} {
		if n := replace.Groups(c.l); n != c.want {
			t.Errorf("Groups(%v): %d; want %d", c.l, n, c.want)
		}
	}
	for text, want := range map[string]int{"": 0, "&": 0, "abc": 0, `\9`: 9, `\1\3\2`: 3, `\0`: 0, `\\5`: 0, `\\\5`: 5, `\19`: 1} {
		if n := replace.Groups(pieces(t, text)); n != want {
			t.Errorf("Groups of %q: %d; want %d", text, n, want)
		}
	}
}

// spans is a match of a whole and groups: of each where it begins and ends.
func spans(l ...int) api.Match {
	var m api.Match
	for k := range m {
		m[k] = api.Span{From: -1, To: -1}
	}
	for k := 0; k < len(l); k += 2 {
		m[k/2] = api.Span{From: l[k], To: l[k+1]}
	}
	return m
}

// P11.1: what pieces are.
func TestFill(t *testing.T) {
	every := spans(0, 10, 0, 1, 1, 2, 2, 3, 3, 4, 4, 5, 5, 6, 6, 7, 7, 8, 8, 9)
	for _, c := range []struct {
		l    []api.Piece
		m    api.Match
		want string
	}{
		{nil, every, ""}, {[]api.Piece{}, every, ""}, {[]api.Piece{{}}, every, "abcdefghij"}, {[]api.Piece{group(0)}, spans(2, 4), "cd"}, {[]api.Piece{group(0)}, spans(3, 3), ""}, {[]api.Piece{plain("x")}, every, "x"}, {[]api.Piece{plain("")}, every, ""},
		{[]api.Piece{group(1)}, every, "a"}, {[]api.Piece{group(2)}, every, "b"}, {[]api.Piece{group(8)}, every, "h"}, {[]api.Piece{group(9)}, every, "i"}, {[]api.Piece{group(9), group(5), group(1)}, every, "iea"}, {[]api.Piece{group(10)}, every, ""}, {[]api.Piece{group(11)}, every, ""}, {[]api.Piece{group(math.MaxInt)}, every, ""}, {[]api.Piece{group(1), group(10), group(2)}, every, "ab"},
		{[]api.Piece{{Text: "x", N: -2}}, every, "x"}, {[]api.Piece{{Text: "x", N: math.MinInt}}, every, "x"}, {[]api.Piece{{Text: "x", N: 0}}, spans(1, 2), "b"}, {[]api.Piece{{Text: "x", N: 3}}, every, "c"}, {[]api.Piece{{Text: "x", N: 10}}, every, ""}, {[]api.Piece{{Text: "x", N: 4}}, spans(0, 1), ""},
		{[]api.Piece{plain("<"), group(0), plain(">")}, spans(4, 6), "<ef>"}, {[]api.Piece{group(2), plain("-"), group(1), group(1)}, spans(0, 3, 0, 1, 1, 3), "bc-aa"}, {[]api.Piece{plain("a"), plain("b")}, every, "ab"}, {[]api.Piece{plain("\x00\xff"), group(1), plain("\n")}, every, "\x00\xffa\n"},
	} {
		checkFill(t, c.l, "abcdefghij", c.m, c.want)
	}
}

// Spans that are none of a text's are nothing, each by itself.
func TestFillSpans(t *testing.T) {
	edges := []int{math.MinInt, -2, -1, 0, 1, 2, 3, 4, 5, math.MaxInt}
	l := []api.Piece{plain("<"), group(0), plain("|"), group(9), plain(">")}
	for _, from := range edges {
		for _, to := range edges {
			for _, text := range []string{"", "a", "abc", "\xff\x00\x80a"} {
				inside := ""
				if from >= 0 && from <= to && to <= len(text) {
					inside = text[from:to]
				}
				m := api.Match{{From: from, To: to}}
				m[9] = api.Span{From: 0, To: len(text)}
				checkFill(t, l, text, m, "<"+inside+"|"+text+">")
				m[0], m[9] = m[9], m[0]
				checkFill(t, l, text, m, "<"+text+"|"+inside+">")
			}
		}
	}
	checkFill(t, []api.Piece{group(0), group(1), group(9)}, "abc", api.Match{}, "")
	checkFill(t, []api.Piece{group(3)}, strings.Repeat("ab", 5000), spans(0, 0, 0, 0, 0, 0, 9997, 10000), "bab")
}

// example is what becomes of a text, each match of which is replaced: s/pattern/template/g.
type example struct {
	pattern, template, text, want string
	count                         int
}

func checkExamples(t *testing.T, l []example) {
	t.Helper()
	for _, c := range l {
		n, by := parsed(t, c.pattern), pieces(t, c.template)
		checkReplace(t, n, by, c.text, 1, true, answer{c.want, c.count, api.OK})
		if len(c.text) < 20 {
			checkTold(t, n, by, c.text)
		}
	}
}

// P11.1: what is replaced by what.
func TestReplace(t *testing.T) {
	checkExamples(t, []example{
		{"a", "x", "banana", "bxnxnx", 3}, {"an", "x", "banana", "bxxa", 2}, {"ana", "x", "banana", "bxna", 1}, {"a", "", "banana", "bnn", 3}, {"a", "aa", "banana", "baanaanaa", 3}, {"a", "b", "aaa", "bbb", 3}, {"a|b", "ba", "ab", "baba", 2}, {".*", "x", "banana", "x", 1}, {".", `\n`, "ab", "\n\n", 2},
		{"(a)(n)", `\2\1`, "banana", "bnanaa", 2}, {"(a|ab)(c|bcd)(d*)", `<\3\2\1>`, "xabcd", "x<dcab>", 1}, {"(.)(.)", `\2\1`, "abcde", "badce", 2}, {"(a)|(b)", `[\1-\2]`, "abc", "[a-][-b]c", 2}, {"a", `\1`, "bab", "bb", 1}, {"(a)", `\9\2\1`, "bab", "bab", 1}, {"(a)(b)(c)(d)(e)(f)(g)(h)(i)", `\9\8\7\6\5\4\3\2\1`, "abcdefghi", "ihgfedcba", 1}, {"b+", "<&&>", "abbc", "a<bbbb>c", 1}, {"a", `\&\n&\\`, "a", "&\na\\", 1},
		{"x", "y", "abc", "abc", 0}, {"x", "y", "", "", 0}, {"abc", "y", "ab", "ab", 0}, {"^b", "y", "ab", "ab", 0}, {"a$", "y", "ab", "ab", 0}, {"b^", "y", "ab", "ab", 0}, {"^$", "y", "ab", "ab", 0},
		{"\xff", "\x00", "\x7f\xff\xfe", "\x7f\x00\xfe", 1}, {"\x00+", "\x80&", "a\x00\x00b\x00", "a\x80\x00\x00b\x80\x00", 2}, {"[\x80-\xff]", "\xff\x80", "\x7f\x80\xff", "\x7f\xff\x80\xff\x80", 2}, {".", "&\xe9", "\xc3\xa9", "\xc3\xe9\xa9\xe9", 2}, {"\\n", "x", "a\nb\n", "axbx", 2},
	})
}

// P11.1: matches that are empty, and where they don't count.
func TestEmptyMatches(t *testing.T) {
	checkExamples(t, []example{
		{"x*", "<&>", "", "<>", 1}, {"x*", "<&>", "a", "<>a<>", 2}, {"x*", "<&>", "abc", "<>a<>b<>c<>", 4}, {"b*", "<&>", "abbc", "<>a<bb>c<>", 3}, {"b*", "<&>", "bb", "<bb>", 1}, {"b*", "<&>", "bba", "<bb>a<>", 2}, {"b*", "<&>", "abb", "<>a<bb>", 2}, {"b*", "<&>", "babb", "<b>a<bb>", 2}, {"b?", "<&>", "bb", "<b><b>", 2}, {"b?", "<&>", "bbab", "<b><b>a<b>", 3}, {"b*", "<&>", "baab", "<b>a<>a<b>", 3}, {"b*", "<&>", "baaab", "<b>a<>a<>a<b>", 4}, {"b*", "", "baab", "aa", 3},
		{"a|b*", "<&>", "abab", "<a><b><a><b>", 4}, {"a|b*", "<&>", "aca", "<a>c<a>", 2}, {"a|$", "<&>", "aa", "<a><a>", 2}, {"b|$", "<&>", "aba", "a<b>a<>", 2}, {"a*$", "<&>", "baa", "b<aa>", 1}, {"(ab)*", "<&>", "aababb", "<>a<abab>b<>", 3}, {"(a*)(b*)", `<\1|\2>`, "aabcb", "<aa|b>c<|b>", 2},
	})
}

// P11.1: the beginning and the end: the text begins a line, and no other place does.
func TestBeginAndEnd(t *testing.T) {
	checkExamples(t, []example{
		{"^", ">", "ab", ">ab", 1}, {"$", "<", "ab", "ab<", 1}, {"^", ">", "", ">", 1}, {"$", "<", "", "<", 1}, {"^$", "-", "", "-", 1}, {"^|$", "-", "", "-", 1}, {"^|$", "-", "ab", "-ab-", 2}, {"^a", "x", "aaa", "xaa", 1}, {"^a*", "<&>", "aab", "<aa>b", 1}, {"^a*", "<&>", "baa", "<>baa", 1}, {"a$", "x", "aaa", "aax", 1}, {"^a*$", "<&>", "aaa", "<aaa>", 1}, {"^|b", "<&>", "bb", "<b><b>", 2}, {"^|b", "<&>", "abb", "<>a<b><b>", 3}, {"^|$|b", "<&>", "ab", "<>a<b>", 2}, {"(^a)|a", `<\1>`, "aa", "<a><>", 2}, {"^", ">", "a\nb", ">a\nb", 1}, {"$", "<", "a\nb\n", "a\nb\n<", 1}, {"(^|,)a", `\1b`, "a,a,aa", "b,b,ba", 3}, {"a(,|$)", `b\1`, "a,a,aa", "b,b,ab", 3},
	})
}

// P11.1: which matches are replaced.
func TestCounts(t *testing.T) {
	for _, c := range []struct {
		pattern, text string
		count         int
		one           string // without global
		all           string
		k             int // how many with it
	}{
		{"a", "banana", 1, "b<a>nana", "b<a>n<a>n<a>", 3}, {"a", "banana", 2, "ban<a>na", "ban<a>n<a>", 2}, {"a", "banana", 3, "banan<a>", "banan<a>", 1}, {"a", "banana", 4, "banana", "banana", 0}, {"a", "banana", math.MaxInt, "banana", "banana", 0}, {"x", "banana", 1, "banana", "banana", 0}, {"x", "", 1, "", "", 0},
		{"b*", "abbc", 1, "<>abbc", "<>a<bb>c<>", 3}, {"b*", "abbc", 2, "a<bb>c", "a<bb>c<>", 2}, {"b*", "abbc", 3, "abbc<>", "abbc<>", 1}, {"b*", "abbc", 4, "abbc", "abbc", 0}, {"b*", "", 1, "<>", "<>", 1}, {"b*", "", 2, "", "", 0}, {"b*", "b", 1, "<b>", "<b>", 1}, {"b*", "b", 2, "b", "b", 0}, {"b*", "bc", 2, "bc<>", "bc<>", 1}, {"b*", "bc", 3, "bc", "bc", 0}, {"x*", "abc", 2, "a<>bc", "a<>b<>c<>", 3}, {"x*", "abc", 4, "abc<>", "abc<>", 1}, {"x*", "abc", 5, "abc", "abc", 0}, {"^a", "aa", 2, "aa", "aa", 0},
	} {
		n, l := parsed(t, c.pattern), pieces(t, "<&>")
		checkReplace(t, n, l, c.text, c.count, false, answer{c.one, min(c.k, 1), api.OK})
		checkReplace(t, n, l, c.text, c.count, true, answer{c.all, c.k, api.OK})
	}
	for _, count := range []int{0, -1, -2, math.MinInt} {
		for _, global := range []bool{false, true} {
			for _, text := range []string{"", "banana", "x", strings.Repeat("a", 1025)} {
				checkReplace(t, parsed(t, "a"), pieces(t, "<&>"), text, count, global, answer{e: api.ErrArg})
			}
			checkReplace(t, api.Node{}, nil, "", count, global, answer{e: api.ErrArg})
			checkReplace(t, parsed(t, "a"), []api.Piece{plain(strings.Repeat("x", 1025))}, "a", count, global, answer{e: api.ErrArg})
		}
	}
}

// Pieces that no template has.
func TestOddPieces(t *testing.T) {
	n := parsed(t, "(a)(b)?")
	for _, c := range []struct {
		l    []api.Piece
		want string
	}{
		{nil, "xx"}, {[]api.Piece{}, "xx"}, {[]api.Piece{{}}, "xabxa"}, {[]api.Piece{{Text: "z", N: 1}}, "xaxa"}, {[]api.Piece{{Text: "z", N: 2}}, "xbx"}, {[]api.Piece{{Text: "z", N: 3}}, "xx"}, {[]api.Piece{{Text: "z", N: 10}}, "xx"}, {[]api.Piece{{Text: "z", N: math.MaxInt}}, "xx"}, {[]api.Piece{{Text: "z", N: -9}}, "xzxz"}, {[]api.Piece{{Text: "z", N: math.MinInt}, plain("y")}, "xzyxzy"}, {[]api.Piece{plain(""), group(1), plain("")}, "xaxa"},
	} {
		checkReplace(t, n, c.l, "xabxa", 1, true, answer{c.want, 2, api.OK})
		checkTold(t, n, c.l, "xabxa")
	}
}

// Texts of up to 1024 bytes are taken, whatever the result would be.
func TestTextLengths(t *testing.T) {
	full, more := strings.Repeat("a", 1024), strings.Repeat("a", 1025)
	for _, c := range []struct {
		pattern, template, want string
		count                   int
	}{
		{"a", "", "", 1024}, {"a", "b", strings.Repeat("b", 1024), 1024}, {"a*", "", "", 1}, {"a*", "b", "b", 1}, {"x", "y", full, 0}, {"x*", "", full, 1025}, {"a", "&", full, 1024}, {"$", "", full, 1}, {"^a", "", full[1:], 1}, {"a$", "b", full[1:] + "b", 1}, {"aa", "a", full[:512], 512},
	} {
		n, l := parsed(t, c.pattern), pieces(t, c.template)
		checkReplace(t, n, l, full, 1, true, answer{c.want, c.count, api.OK})
		for _, count := range []int{1, 2, 1025, 1026, math.MaxInt} {
			checkReplace(t, n, l, more, count, true, answer{e: api.ErrSpace})
			checkReplace(t, n, l, more, count, false, answer{e: api.ErrSpace})
		}
	}
	checkReplace(t, parsed(t, "a*"), nil, strings.Repeat("a", 1<<20), 1, true, answer{e: api.ErrSpace})
	checkReplace(t, parsed(t, "a"), pieces(t, "b"), full, 1024, false, answer{full[1:] + "b", 1, api.OK})
	checkReplace(t, parsed(t, "a"), pieces(t, "b"), full, 1024, true, answer{full[1:] + "b", 1, api.OK})
	checkReplace(t, parsed(t, "a"), pieces(t, "b"), full, 1025, true, answer{full, 0, api.OK})
	checkReplace(t, parsed(t, "x*"), nil, full, 1025, false, answer{full, 1, api.OK})
	checkReplace(t, parsed(t, "x*"), nil, full, 1026, true, answer{full, 0, api.OK})
}

// Results of up to 1024 bytes are given, whatever is too long on the way to them.
func TestResultLengths(t *testing.T) {
	rep := strings.Repeat
	for _, c := range []struct {
		pattern, template, text string
		count                   int
		global                  bool
		want                    answer
	}{
		{"a", "&&", rep("a", 512), 1, true, answer{rep("a", 1024), 512, api.OK}}, {"a", "&&", rep("a", 513), 1, true, answer{e: api.ErrSpace}}, {"a", "&&", rep("a", 512) + "b", 1, true, answer{e: api.ErrSpace}}, {"a", "&&", "b" + rep("a", 512), 1, true, answer{e: api.ErrSpace}}, {"a", "&&", rep("a", 511) + "bb", 1, true, answer{rep("a", 1022) + "bb", 511, api.OK}}, {"a", "&&", rep("a", 513), 2, true, answer{e: api.ErrSpace}}, {"a", "&&", rep("a", 513), 3, true, answer{rep("a", 1024), 511, api.OK}},
		{"$", "x", rep("a", 1023), 1, true, answer{rep("a", 1023) + "x", 1, api.OK}}, {"$", "x", rep("a", 1024), 1, true, answer{e: api.ErrSpace}}, {"^", "x", rep("a", 1023), 1, false, answer{"x" + rep("a", 1023), 1, api.OK}}, {"^", "x", rep("a", 1024), 1, false, answer{e: api.ErrSpace}}, {"a", "bc", rep("a", 1024), 1024, false, answer{e: api.ErrSpace}}, {"a", "bc", rep("a", 1023), 1023, false, answer{rep("a", 1022) + "bc", 1, api.OK}}, {"a", "bc", rep("a", 1024), 1025, true, answer{rep("a", 1024), 0, api.OK}}, {"x*", "-", rep("a", 511), 1, true, answer{rep("-a", 511) + "-", 512, api.OK}}, {"x*", "-", rep("a", 512), 1, true, answer{e: api.ErrSpace}},
		{"a", "", rep("ab", 512), 1, true, answer{rep("b", 512), 512, api.OK}}, {"(x)|a", `\1\1\1`, "x" + rep("a", 1023), 1, true, answer{"xxx", 1024, api.OK}}, {"(x)|a", `\1\1\1`, rep("a", 1023) + "x", 1, true, answer{"xxx", 1024, api.OK}}, {"(x+)|a", `\1\1`, rep("x", 512) + rep("a", 512), 1, true, answer{rep("x", 1024), 513, api.OK}}, {"(x+)|a", `\1\1`, rep("a", 512) + rep("x", 512), 1, true, answer{rep("x", 1024), 513, api.OK}}, {"(x+)|a", `\1\1`, rep("x", 513) + rep("a", 511), 1, true, answer{e: api.ErrSpace}}, {"(x+)|a", `\1\1`, rep("a", 511) + rep("x", 513), 1, true, answer{e: api.ErrSpace}},
		{"a", rep("b", 1024), "a", 1, false, answer{rep("b", 1024), 1, api.OK}}, {"a", rep("b", 1025), "a", 1, false, answer{e: api.ErrSpace}}, {"a", rep("b", 1025), "c", 1, false, answer{"c", 0, api.OK}}, {"a", rep("b", 1024), "ac", 1, false, answer{e: api.ErrSpace}}, {"a", rep("b", 1024), "ca", 1, false, answer{e: api.ErrSpace}}, {"a", rep("b", 1023), "ac", 1, false, answer{rep("b", 1023) + "c", 1, api.OK}}, {"a", rep("b", 512), "aa", 1, true, answer{rep("b", 1024), 2, api.OK}}, {"a", rep("b", 512), "aaa", 1, true, answer{e: api.ErrSpace}}, {"a", rep("b", 512), "aaa", 2, true, answer{e: api.ErrSpace}}, {"a", rep("b", 512), "aaa", 3, true, answer{"aa" + rep("b", 512), 1, api.OK}},
	} {
		checkReplace(t, parsed(t, c.pattern), pieces(t, c.template), c.text, c.count, c.global, c.want)
	}
	// Every length around the limit.
	for size := 1000; size <= 1030; size++ {
		want := answer{rep("b", size), 1, api.OK}
		if size > 1024 {
			want = answer{e: api.ErrSpace}
		}
		checkReplace(t, parsed(t, "a"), pieces(t, rep("b", size)), "a", 1, true, want)
	}
}
