package pattern_test

import (
	"strings"
	"testing"

	"headgate/api"
	"headgate/class"
)

// example is a pattern, and its tree, told by hand.
type example struct {
	text string
	tree api.Node
}

func basicExamples() []example {
	a, b := one("a"), one("b")
	up, money, star := one("^"), one("$"), one("*")
	return []example{
		{"a", a}, {"ab", row(a, b)}, {"abc", each("abc")}, {".", dot()}, {"a.", row(a, dot())}, {"a\nb", each("a\nb")}, {"\n", one("\n")},
		{"a*", times(0, -1, a)}, {"ab*", row(a, times(0, -1, b))}, {"a*b*", row(times(0, -1, a), times(0, -1, b))}, {".*", times(0, -1, dot())}, {"\\.*", times(0, -1, one("."))},
		{"*", star}, {"**", times(0, -1, star)}, {"*a", row(star, a)}, {"*a*", row(star, times(0, -1, a))}, {"**a", row(times(0, -1, star), a)}, {"*\\{2\\}", times(2, 2, star)}, {"\\*", star}, {"\\**", times(0, -1, star)}, {"a\\*", row(a, star)}, {"a\\**", row(a, times(0, -1, star))}, {"*$", row(star, end())}, {"**$", row(times(0, -1, star), end())},
		{"^*", row(begin(), star)}, {"^**", row(begin(), times(0, -1, star))}, {"^*a", row(begin(), star, a)}, {"^*\\{2,3\\}", row(begin(), times(2, 3, star))}, {"^*^", row(begin(), star, up)}, {"^*$", row(begin(), star, end())}, {"^*^*", row(begin(), star, times(0, -1, up))}, {"^\\**", row(begin(), times(0, -1, star))}, {"\\^*", times(0, -1, up)}, {"\\^*a", row(times(0, -1, up), a)},
		{"\\(*\\)", group(1, star)}, {"\\(**\\)", group(1, times(0, -1, star))}, {"\\(*a\\)", group(1, row(star, a))}, {"\\(^*\\)", group(1, row(begin(), star))}, {"\\(^**\\)*", times(0, -1, group(1, row(begin(), times(0, -1, star))))}, {"a\\(*\\)", row(a, group(1, star))}, {"\\(a\\)*", times(0, -1, group(1, a))}, {"\\(*\\)*", times(0, -1, group(1, star))}, {"^\\(*\\)", row(begin(), group(1, star))}, {"\\(\\(*a\\)\\)", group(1, group(2, row(star, a)))}, {"\\(a\\(*\\)\\)", group(1, row(a, group(2, star)))},
		{"^", begin()}, {"^a", row(begin(), a)}, {"a^", row(a, up)}, {"a^b", each("a^b")}, {"a^*", row(a, times(0, -1, up))}, {"^^", row(begin(), up)}, {"^^*", row(begin(), times(0, -1, up))}, {"^^^", row(begin(), up, up)}, {"\\^", up}, {"\\^a", row(up, a)}, {"*^", row(star, up)}, {"\\(^\\)", group(1, begin())}, {"\\(^a\\)", group(1, row(begin(), a))}, {"a\\(^b\\)", row(a, group(1, row(begin(), b)))}, {"\\(a^\\)", group(1, row(a, up))}, {"\\(a\\)^", row(group(1, a), up)}, {"^\\(^a\\)", row(begin(), group(1, row(begin(), a)))}, {"\\(\\(^a\\)\\)", group(1, group(2, row(begin(), a)))}, {"\\(^\\)*", times(0, -1, group(1, begin()))}, {"a^\\{2\\}", row(a, times(2, 2, up))}, {"\\n^", row(one("\n"), up)}, {"\n^", row(one("\n"), up)},
		{"$", end()}, {"a$", row(a, end())}, {"$a", row(money, a)}, {"a$b", each("a$b")}, {"$*", times(0, -1, money)}, {"a$*", row(a, times(0, -1, money))}, {"$$", row(money, end())}, {"$*$", row(times(0, -1, money), end())}, {"$$$", row(money, money, end())}, {"$\\{3\\}", times(3, 3, money)}, {"\\$", money}, {"a\\$", row(a, money)}, {"\\$$", row(money, end())}, {"\\\\$", row(one("\\"), end())}, {"$\\\\", row(money, one("\\"))}, {"$\\n", row(money, one("\n"))}, {"$\n", row(money, one("\n"))}, {"a*$", row(times(0, -1, a), end())},
		{"\\($\\)", group(1, end())}, {"\\(a$\\)", group(1, row(a, end()))}, {"\\(a$\\)b", row(group(1, row(a, end())), b)}, {"\\($a\\)", group(1, row(money, a))}, {"$\\(a\\)", row(money, group(1, a))}, {"\\(a\\)$", row(group(1, a), end())}, {"\\(a$\\)$", row(group(1, row(a, end())), end())}, {"\\($$\\)", group(1, row(money, end()))}, {"\\($*\\)", group(1, times(0, -1, money))}, {"\\($\\)*", times(0, -1, group(1, end()))}, {"\\(\\(a$\\)\\)", group(1, group(2, row(a, end())))}, {"\\($)\\)", group(1, row(money, one(")")))}, {"$)", row(money, one(")"))},
		{"^$", row(begin(), end())}, {"\\(^$\\)", group(1, row(begin(), end()))}, {"^$*", row(begin(), times(0, -1, money))}, {"^a$", row(begin(), a, end())}, {"$^", row(money, up)}, {"^$a", row(begin(), money, a)}, {"^$^$", row(begin(), money, up, end())}, {"^.$", row(begin(), dot(), end())},
		{"\\(a\\)", group(1, a)}, {"\\(ab\\)", group(1, row(a, b))}, {"\\(\\(a\\)\\)", group(1, group(2, a))}, {"\\(a\\)\\(b\\)", row(group(1, a), group(2, b))}, {"\\(a\\(b\\)\\)a", row(group(1, row(a, group(2, b))), a)}, {"\\(\\(a\\)\\(b\\)\\)\\(a\\)", row(group(1, row(group(2, a), group(3, b))), group(4, a))}, {"\\(a*\\)*", times(0, -1, group(1, times(0, -1, a)))}, {"\\(\\(a\\)*\\)\\{2,\\}", times(2, -1, group(1, times(0, -1, group(2, a))))}, {"\\(()\\)", group(1, each("()"))},
		{"a\\{0\\}", times(0, 0, a)}, {"a\\{3\\}", times(3, 3, a)}, {"a\\{3,\\}", times(3, -1, a)}, {"a\\{3,5\\}", times(3, 5, a)}, {"a\\{3,3\\}", times(3, 3, a)}, {"a\\{0,\\}", times(0, -1, a)}, {"a\\{0,0\\}", times(0, 0, a)}, {"a\\{1\\}", times(1, 1, a)}, {"a\\{20\\}", times(20, 20, a)}, {"a\\{20,20\\}", times(20, 20, a)}, {"a\\{20,\\}", times(20, -1, a)}, {"a\\{0,20\\}", times(0, 20, a)}, {"a\\{9,10\\}", times(9, 10, a)}, {"a\\{007\\}", times(7, 7, a)}, {"a\\{07,020\\}", times(7, 20, a)}, {"a\\{000,000\\}", times(0, 0, a)}, {"\\(a\\)\\{2\\}", times(2, 2, group(1, a))}, {".\\{2\\}b", row(times(2, 2, dot()), b)}, {"[ab]\\{2\\}", times(2, 2, one("ab"))}, {"a\\{2\\}}", row(times(2, 2, a), one("}"))},
		{"a|b", each("a|b")}, {"|", one("|")}, {"a+", each("a+")}, {"+", one("+")}, {"a?", each("a?")}, {"(", one("(")}, {")", one(")")}, {"()", each("()")}, {"(a)*", row(one("("), a, times(0, -1, one(")")))}, {"{", one("{")}, {"}", one("}")}, {"a{2}", each("a{2}")}, {"{*", times(0, -1, one("{"))}, {"]", one("]")}, {"a]", each("a]")}, {"/", one("/")}, {"|*", times(0, -1, one("|"))}, {"a-b", each("a-b")},
	}
}

func extendedExamples() []example {
	a, b, c := one("a"), one("b"), one("c")
	return []example{
		{"a", a}, {"ab", row(a, b)}, {".", dot()}, {"\n", one("\n")}, {"\\n", one("\n")}, {"a\\n*", row(a, times(0, -1, one("\n")))},
		{"a*", times(0, -1, a)}, {"a+", times(1, -1, a)}, {"a?", times(0, 1, a)}, {"ab+", row(a, times(1, -1, b))}, {".+", times(1, -1, dot())}, {"\\*", one("*")}, {"\\*+", times(1, -1, one("*"))}, {"\\+?", times(0, 1, one("+"))},
		{"a{0}", times(0, 0, a)}, {"a{3}", times(3, 3, a)}, {"a{3,}", times(3, -1, a)}, {"a{3,5}", times(3, 5, a)}, {"a{4,4}", times(4, 4, a)}, {"a{0,}", times(0, -1, a)}, {"a{0,0}", times(0, 0, a)}, {"a{0,1}", times(0, 1, a)}, {"a{1,}", times(1, -1, a)}, {"a{1}", times(1, 1, a)}, {"a{20}", times(20, 20, a)}, {"a{20,20}", times(20, 20, a)}, {"a{20,}", times(20, -1, a)}, {"a{0,20}", times(0, 20, a)}, {"a{9,10}", times(9, 10, a)}, {"a{007}", times(7, 7, a)}, {"a{07,020}", times(7, 20, a)}, {"a{000}", times(0, 0, a)}, {"a{2}}", row(times(2, 2, a), one("}"))}, {"a{2}b{3}", row(times(2, 2, a), times(3, 3, b))}, {"}", one("}")}, {"}{2}", times(2, 2, one("}"))}, {"a}", each("a}")}, {"\\{", one("{")}, {"\\{2}", each("{2}")}, {"a\\{2\\}", each("a{2}")},
		{"a|b", bars(a, b)}, {"a|b|c", bars(a, b, c)}, {"ab|c", bars(row(a, b), c)}, {"a|bc", bars(a, row(b, c))}, {"a|a", bars(a, a)}, {"a*|b+", bars(times(0, -1, a), times(1, -1, b))}, {"\\|", one("|")}, {"a\\|b", each("a|b")}, {"[|]", one("|")}, {"[a|b]", one("ab|")}, {"[a|b]|c", bars(one("ab|"), c)},
		{"(a)", group(1, a)}, {"(ab)", group(1, row(a, b))}, {"(a|b)", group(1, bars(a, b))}, {"(ab|c)", group(1, bars(row(a, b), c))}, {"(a)b", row(group(1, a), b)}, {"(a)(b)", row(group(1, a), group(2, b))}, {"((a))", group(1, group(2, a))}, {"((a)(b))(c)", row(group(1, row(group(2, a), group(3, b))), group(4, c))}, {"(a)|(b)", bars(group(1, a), group(2, b))}, {"((a)|b)|(c)", bars(group(1, bars(group(2, a), b)), group(3, c))}, {"(a|(b|c))", group(1, bars(a, group(2, bars(b, c))))}, {"(a)*", times(0, -1, group(1, a))}, {"(a)+", times(1, -1, group(1, a))}, {"(a)?", times(0, 1, group(1, a))}, {"(a){2,}", times(2, -1, group(1, a))}, {"(a*)*", times(0, -1, group(1, times(0, -1, a)))}, {"(a|b)*c", row(times(0, -1, group(1, bars(a, b))), c)}, {"\\(", one("(")}, {"\\(a\\)", each("(a)")}, {"(\\))", group(1, one(")"))}, {"([)])", group(1, one(")"))},
		{"^", begin()}, {"$", end()}, {"^a", row(begin(), a)}, {"a^", row(a, begin())}, {"a^b", row(a, begin(), b)}, {"a$", row(a, end())}, {"$a", row(end(), a)}, {"a$b", row(a, end(), b)}, {"^$", row(begin(), end())}, {"$^", row(end(), begin())}, {"^^", row(begin(), begin())}, {"$$", row(end(), end())}, {"^^a$$", row(begin(), begin(), a, end(), end())}, {"(^)", group(1, begin())}, {"($)", group(1, end())}, {"(^)*", times(0, -1, group(1, begin()))}, {"($)+", times(1, -1, group(1, end()))}, {"(^a)", group(1, row(begin(), a))}, {"(a$)b", row(group(1, row(a, end())), b)}, {"^|$", bars(begin(), end())}, {"^a|b$", bars(row(begin(), a), row(b, end()))}, {"a|^", bars(a, begin())}, {"(^|a)b", row(group(1, bars(begin(), a)), b)}, {"(a|$)", group(1, bars(a, end()))}, {"\\^", one("^")}, {"\\$", one("$")}, {"\\^*", times(0, -1, one("^"))}, {"\\${2}", times(2, 2, one("$"))}, {"a*^", row(times(0, -1, a), begin())}, {"a*$", row(times(0, -1, a), end())},
		{"]", one("]")}, {"a]", each("a]")}, {"/", one("/")}, {"\\/", one("/")}, {"\\]", one("]")}, {"]*", times(0, -1, one("]"))}, {",", one(",")}, {"-", one("-")}, {"&", one("&")},
		{"(a|ab)(c|bcd)(d*)", row(group(1, bars(a, row(a, b))), group(2, bars(c, each("bcd"))), group(3, times(0, -1, one("d"))))},
	}
}

func TestBasicExamples(t *testing.T) {
	for _, c := range basicExamples() {
		checkTree(t, c.text, false, c.tree)
		checkTold(t, c.text, false)
	}
}

func TestExtendedExamples(t *testing.T) {
	for _, c := range extendedExamples() {
		checkTree(t, c.text, true, c.tree)
		checkTold(t, c.text, true)
	}
}

func basicErrors() []string {
	return []string{
		"", "a**", "***", "^***", "a*b**", "\\(a**\\)", "\\(***\\)", "\\(^***\\)", "\\(a\\)**", "[a]**", ".**", "a^**", "$**",
		"\\(\\)", "\\(", "\\)", "\\(a", "a\\)", "a\\(", "\\)a", "\\(a\\)\\)", "\\(\\(a\\)", "\\)a\\(", "\\(a\\(\\)\\)", "\\(a)", "(a\\)", "\\(\\(\\)\\)", "a\\(\\)b", "\\(a\\\\)", "^\\)", "$\\)", "a$\\)", "\\(^", "\\($", "\\($\\", "\\(a$",
		"^\\{2\\}", "\\(^\\{2\\}\\)", "\\{2\\}", "\\(\\{2\\}\\)", "\\{", "\\}", "a\\}", "a\\{", "a\\{2", "a\\{2}", "a\\{2\\", "a\\{2,", "a\\{2,3", "a\\{2,3}", "a\\{2,3\\", "a\\{\\}", "a\\{,\\}", "a\\{,3\\}", "a\\{3,2\\}", "a\\{20,19\\}", "a\\{1,0\\}", "a\\{21\\}", "a\\{21,\\}", "a\\{1,21\\}", "a\\{21,22\\}", "a\\{100\\}", "a\\{999\\}", "a\\{1,100\\}", "a\\{0000\\}", "a\\{0007\\}", "a\\{1,0007\\}", "a\\{0001,7\\}", "a\\{1000\\}", "a\\{x\\}", "a\\{2x\\}", "a\\{-1\\}", "a\\{+1\\}", "a\\{1,+2\\}", "a\\{1,-1\\}", "a\\{ 1\\}", "a\\{1 \\}", "a\\{1, 2\\}", "a\\{1 ,2\\}", "a\\{1,2,3\\}", "a\\{1,,2\\}", "a\\{1,2,\\}", "a\\{1;2\\}", "a\\{0x1\\}", "a\\{1_0\\}", "a\\{1\n\\}", "a\\{\xd9\xa1\\}", "a\\{2\\\\}", "a\\{18446744073709551617\\}",
		"a*\\{2\\}", "a\\{2\\}*", "a\\{2\\}\\{2\\}", "a\\{2\\}**", "a\\{2\\}\\{3", "**\\{2\\}", "^**\\{2\\}", "*\\{2\\}*",
		"\\", "a\\", "\\\\\\", "[a]\\", "\\(a\\", "^\\", "*\\", "\\1", "\\(a\\)\\1", "\\9", "\\0", "\\|", "a\\|b", "\\+", "a\\+", "\\?", "a\\?", "\\a", "\\t", "\\N", "\\w", "\\ ", "\\-", "\\\n", "\\&", "\\,", "\\;", "\\\"", "\\<", "\\b", "\\\x00", "\\\x80", "\\\xff",
		"[", "[a", "[]", "[^", "[^]", "a[", "a[b", "[z-a]", "[[:none:]]", "[[:alpha:]", "[[.a.]]", "[[=a=]]", "[a\nb]", "\\(a[\\)", "\\([a\\)", "[a]\\(", "[a][", "[\\", "[a--b]",
	}
}

func extendedErrors() []string {
	return []string{
		"", "*", "+", "?", "{2}", "*a", "+a", "?a", "{2}a", "a**", "a*+", "a+*", "a++", "a?+", "a??", "a+?", "a*?", "a*{2}", "a{2}*", "a{2}{3}", "a{2}?", "a{2}+", "(a)**", "(a)+?", "[a]**", ".??",
		"()", "(", ")", "(a", "a)", "a(", ")a", "(a))", "((a)", ")(", ")a(", "(a()b)", "(())", "a()", "()a", "(*a)", "(+)", "(?a)", "({2})", "(a\\)", "\\(a)", "(a[)]", "(^", "($", "^)", "$)",
		"|", "||", "a|", "|a", "a||b", "a|b|", "|a|b", "(|a)", "(a|)", "(a||b)", "(|)", "a|*", "a|*b", "a|+", "a|?", "a|{2}", "(a|*)", "a|()", "a|)", "a|(", "(a|b", "a|b)", "(a|b))", "^|", "|$",
		"^*", "^+", "^?", "^{2}", "$*", "$+", "$?", "${2}", "a^*", "a$*", "^*a", "(^*)", "($+)", "(^*a)", "^^*", "$$*", "a|^*", "^**", "^{1,2}a", "(^{2})",
		"{", "a{", "a{}", "a{,}", "a{,3}", "a{2", "a{2,", "a{2,3", "a{2\\}", "a\\{2}*{3", "a{3,2}", "a{20,19}", "a{1,0}", "a{21}", "a{21,}", "a{1,21}", "a{21,22}", "a{100}", "a{999}", "a{1,100}", "a{0000}", "a{0007}", "a{1,0007}", "a{0001,7}", "a{1000}", "a{x}", "a{2x}", "a{-1}", "a{+1}", "a{1,+2}", "a{1,-1}", "a{ 1}", "a{1 }", "a{1, 2}", "a{1 ,2}", "a{1,2,3}", "a{1,,2}", "a{1,2,}", "a{1;2}", "a{0x1}", "a{1_0}", "a{1\n}", "a{\xd9\xa1}", "a{18446744073709551617}", "a{{2}", "a{{2}}", "{a}", "{,2}", "a{2}{", "a{b",
		"\\", "a\\", "\\\\\\", "(a\\", "a|\\", "\\1", "(a)\\1", "\\9", "\\0", "\\a", "\\t", "\\N", "\\w", "\\ ", "\\-", "\\\n", "\\&", "\\,", "\\;", "\\\"", "\\<", "\\b", "\\=", "\\:", "\\\x00", "\\\x80", "\\\xff",
		"[", "[a", "[]", "[^", "[^]", "a[", "a[b", "[z-a]", "[[:none:]]", "[[:alpha:]", "[[.a.]]", "[[=a=]]", "[a\nb]", "([a)", "[a|b", "[a](", "[a][", "[\\", "[a--b]",
	}
}

func TestErrors(t *testing.T) {
	for _, s := range basicErrors() {
		checkError(t, s, false)
		checkTold(t, s, false)
		checkTold(t, s, true)
	}
	for _, s := range extendedErrors() {
		checkError(t, s, true)
		checkTold(t, s, false)
		checkTold(t, s, true)
	}
}

// What is no pattern is none within a longer text either.
func TestErrorsWithin(t *testing.T) {
	for _, s := range []string{"\\(\\)", "a**", "a\\{3,2\\}", "a\\{21\\}", "\\1", "a\\|b", "a*\\{2\\}"} {
		for _, around := range []string{"x?", "?x", "x?x", "\\(?\\)", "\\(x?\\)*x", "[x]?[y]", "\\(x\\)?$"} {
			checkError(t, strings.Replace(around, "?", s, 1), false)
		}
	}
	for _, s := range []string{"()", "a**", "a{3,2}", "a{21}", "\\1", "a||b", "a{", "^*", "$+"} {
		for _, around := range []string{"x!", "!x", "x!x", "(!)", "(x!)*x", "[x]![y]", "x|!", "!|x", "(x|!|y)", "(x)!$"} {
			checkError(t, strings.Replace(around, "!", s, 1), true)
		}
	}
}

func TestLengths(t *testing.T) {
	for _, extended := range []bool{false, true} {
		checkError(t, "", extended)
		checkTree(t, "x", extended, one("x"))
		for _, n := range []int{2, 199, 200} {
			checkTree(t, strings.Repeat("x", n), extended, each(strings.Repeat("x", n)))
		}
		for _, n := range []int{201, 202, 256, 1 << 16} {
			checkError(t, strings.Repeat("x", n), extended)
			checkError(t, strings.Repeat("[", n), extended)
			checkError(t, "["+strings.Repeat("x", n-2)+"]", extended)
		}
		checkTree(t, "["+strings.Repeat("x", 198)+"]", extended, one("x"))
		checkTree(t, strings.Repeat("\\.", 100), extended, each(strings.Repeat(".", 100)))
		checkError(t, strings.Repeat("\\.", 100)+"x", extended)
		checkTree(t, strings.Repeat("\xc3\xa4", 100), extended, each(strings.Repeat("\xc3\xa4", 100)))
		checkError(t, strings.Repeat("\xc3\xa4", 100)+"x", extended)
	}
	checkError(t, strings.Repeat("\\(", 100), false)
	checkError(t, strings.Repeat("(", 200), true)
	rows := make([]api.Node, 100)
	for k := range rows {
		rows[k] = one("x")
	}
	checkTree(t, strings.Repeat("x|", 99)+"xx", true, bars(append(rows[:99:99], each("xx"))...))
	checkTree(t, strings.Repeat("x|", 99)+"x", true, bars(rows...))
	checkError(t, strings.Repeat("x|", 100)+"x", true)
	checkError(t, strings.Repeat("x|", 100), true)
}

// nested are n groups in groups, or one behind the other; both syntaxes have the same tree.
func nested(n int, inside bool) (string, string, api.Node) {
	a := one("a")
	if inside {
		tree := a
		for k := n; k > 0; k-- {
			tree = group(k, tree)
		}
		return strings.Repeat("\\(", n) + "a" + strings.Repeat("\\)", n), strings.Repeat("(", n) + "a" + strings.Repeat(")", n), tree
	}
	tree := row()
	for k := range n {
		tree.Kids = append(tree.Kids, group(k+1, a))
	}
	if n == 1 {
		tree = tree.Kids[0]
	}
	return strings.Repeat("\\(a\\)", n), strings.Repeat("(a)", n), tree
}

func TestGroups(t *testing.T) {
	for n := 1; n <= 12; n++ {
		for _, inside := range []bool{false, true} {
			basic, extended, tree := nested(n, inside)
			if n > 9 {
				checkError(t, basic, false)
				checkError(t, extended, true)
				continue
			}
			checkTree(t, basic, false, tree)
			checkTree(t, extended, true, tree)
		}
	}
	nine := strings.Repeat("(a)", 8)
	checkTold(t, nine+"|(b)", true)
	checkError(t, nine+"|(b)|(c)", true)
	checkError(t, nine+"((a))", true)
	checkError(t, "(a)*"+nine+"(b)*", true)
	checkTree(t, "\\(a\\(b\\(c\\)\\)\\(d\\)\\)\\(e\\)", false, row(group(1, row(one("a"), group(2, row(one("b"), group(3, one("c")))), group(4, one("d")))), group(5, one("e"))))
	checkTree(t, "(a(b(c))(d))(e)", true, row(group(1, row(one("a"), group(2, row(one("b"), group(3, one("c")))), group(4, one("d")))), group(5, one("e"))))
	checkTree(t, "((a)|(b|(c)))*|(d)", true, bars(times(0, -1, group(1, bars(group(2, one("a")), group(3, bars(one("b"), group(4, one("c"))))))), group(5, one("d"))))
}

// Each byte stands alone, behind another one, ahead of another one, and behind a \.
func TestEveryByte(t *testing.T) {
	for c := range 256 {
		s := string([]byte{byte(c)})
		for _, around := range []string{"!", "x!", "!x", "x!y", "!*", "x!*", "!!", "!**", "^!", "^!*", "!$", "\\(!\\)", "\\(!*\\)", "(!)", "(!*)", "!|x", "x|!", "!+", "!?", "!{2}", "!\\{2\\}", "[!]", "[!]*", "[^!]", "[x!]", "[x!", "x{!}", "x\\{!\\}", "x{1!}", "x\\{1!\\}", "x{1,!}", "x\\{1,!\\}", "x{2}!", "x\\{2\\}!", "x*!"} {
			checkBoth(t, strings.ReplaceAll(around, "!", s))
			checkBoth(t, strings.ReplaceAll(around, "!", "\\"+s))
		}
		if !strings.Contains("\\.[*^$", s) {
			checkTree(t, s, false, one(s))
			checkTree(t, s+s+"*", false, row(one(s), times(0, -1, one(s))))
		}
		if !strings.Contains("\\.[()|*+?{^$", s) {
			checkTree(t, s, true, one(s))
			checkTree(t, s+s+"*", true, row(one(s), times(0, -1, one(s))))
		}
		checkEscape(t, s)
	}
}

// checkEscape tells what a byte behind a \ is, by itself and around it.
func checkEscape(t *testing.T, s string) {
	for _, c := range []struct {
		extended bool
		allowed  string
	}{{false, ".[]\\*^$/"}, {true, ".[]\\*^$/()|+?{}"}} {
		text := "\\" + s
		switch {
		case s == "n":
			checkTree(t, text, c.extended, one("\n"))
			checkTree(t, "n"+text+"n*", c.extended, row(one("n"), one("\n"), times(0, -1, one("n"))))
		case strings.Contains(c.allowed, s):
			checkTree(t, text, c.extended, one(s))
			checkTree(t, "x"+text+"*y", c.extended, row(one("x"), times(0, -1, one(s)), one("y")))
			checkTree(t, "x"+text, c.extended, each("x"+s))
		default: // what begins or ends a group or an interval is no pattern alone
			checkError(t, text, c.extended)
			checkError(t, text+text, c.extended)
			checkError(t, "x"+text+"y", c.extended)
		}
	}
}

// P9.2: a text of letters and digits is a Row of these bytes, or the only one.
func TestLettersAndDigits(t *testing.T) {
	most := run('0', '9') + run('A', 'Z') + run('a', 'z')
	for _, extended := range []bool{false, true} {
		for k := range len(most) {
			checkTree(t, most[k:k+1], extended, one(most[k:k+1]))
		}
		checkTree(t, most, extended, each(most))
		for seed := range 2000 {
			text := arbitrary(seed, 2+seed%199, most)
			checkTree(t, text, extended, each(text))
		}
	}
}

// What is written in the same way in both syntaxes is the same.
func TestIntervals(t *testing.T) {
	a := one("a")
	digits := []string{"", "0", "1", "2", "9", "00", "01", "10", "19", "20", "21", "99", "000", "001", "019", "020", "021", "100", "200", "0000", "0001", "0020", "1000"}
	value := map[string]int{"0": 0, "1": 1, "2": 2, "9": 9, "00": 0, "01": 1, "10": 10, "19": 19, "20": 20, "000": 0, "001": 1, "019": 19, "020": 20}
	check := func(inside string, ok bool, least, most int) {
		t.Helper()
		for _, x := range []struct {
			text     string
			extended bool
		}{{"a\\{" + inside + "\\}", false}, {"a{" + inside + "}", true}} {
			if !ok {
				checkError(t, x.text, x.extended)
				continue
			}
			checkTree(t, x.text, x.extended, times(least, most, a))
			checkTree(t, x.text+"b", x.extended, row(times(least, most, a), one("b")))
			for k := 2; k < len(x.text); k++ {
				checkError(t, x.text[:k], x.extended)
			}
		}
	}
	for _, low := range digits {
		m, isLow := value[low]
		check(low, isLow, m, m)
		check(low+",", isLow, m, -1)
		for _, high := range digits {
			if n, isHigh := value[high]; high != "" {
				check(low+","+high, isLow && isHigh && m <= n, m, n)
			}
		}
	}
}

func TestBrackets(t *testing.T) {
	for _, c := range []struct {
		text string
		set  api.Set
	}{
		{"[a]", setOf("a")}, {"[abc]", setOf("abc")}, {"[a-c]", setOf("abc")}, {"[^a]", others("a\n")}, {"[^a-c]", others("abc\n")}, {"[]]", setOf("]")}, {"[]a]", setOf("a]")}, {"[^]]", others("]\n")}, {"[-]", setOf("-")}, {"[a-]", setOf("a-")}, {"[[]", setOf("[")}, {"[.]", setOf(".")}, {"[*]", setOf("*")}, {"[\\]", setOf("\\")}, {"[\\n]", setOf("\\n")}, {"[$]", setOf("$")}, {"[a^]", setOf("a^")}, {"[(]", setOf("(")}, {"[)]", setOf(")")}, {"[|]", setOf("|")}, {"[{}]", setOf("{}")}, {"[+?]", setOf("+?")}, {"[\\(\\)]", setOf("\\()")}, {"[/]", setOf("/")},
		{"[[:digit:]]", setOf("0123456789")}, {"[^[:digit:]]", others("0123456789\n")}, {"[[:upper:]_]", setOf(run('A', 'Z') + "_")}, {"[[:space:]]", setOf("\t\n\v\f\r ")}, {"[\x00-\xff]", setOf(run(0, 255))}, {"[^\x00-\xff]", api.Set{}}, {"[\x80-\xff]", setOf(run(128, 255))}, {"[\x00]", setOf("\x00")}, {"[\xff]", setOf("\xff")},
	} {
		if s, n, e := class.Bracket(c.text[1:]); s != c.set || n != len(c.text)-1 || e != api.OK {
			t.Fatalf("%q is no bracket expression of these bytes", c.text)
		}
		x := of(c.set)
		for _, extended := range []bool{false, true} {
			checkTree(t, c.text, extended, x)
			checkTree(t, c.text+"*", extended, times(0, -1, x))
			checkTree(t, "a"+c.text+"b", extended, row(one("a"), x, one("b")))
			checkTree(t, c.text+c.text, extended, row(x, x))
			checkTree(t, c.text+"]", extended, row(x, one("]")))
			checkTree(t, "^"+c.text+"$", extended, row(begin(), x, end()))
			checkTree(t, c.text+"\\*", extended, row(x, one("*")))
			checkError(t, c.text+"**", extended)
			checkError(t, c.text+"[", extended)
			checkError(t, c.text+"\\", extended)
		}
		checkTree(t, c.text+"\\{2\\}", false, times(2, 2, x))
		checkTree(t, c.text+"{2}", true, times(2, 2, x))
		checkTree(t, c.text+"|"+c.text+"+", true, bars(x, times(1, -1, x)))
		checkTree(t, "("+c.text+")", true, group(1, x))
		checkTree(t, "\\("+c.text+"\\)", false, group(1, x))
	}
}
