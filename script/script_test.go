package script_test

import (
	"strings"
	"testing"

	"headgate/api"
	"headgate/pattern"
)

// What commands consist of, told by hand.

func line(n int) api.Address {
	return api.Address{Kind: api.Line, Line: n}
}

func last() api.Address {
	return api.Address{Kind: api.Last}
}

func again() api.Address {
	return api.Address{Kind: api.Again}
}

func matching(n api.Node) api.Address {
	return api.Address{Kind: api.Pattern, Pattern: n}
}

// one is one of some bytes.
func one(some string) api.Node {
	n := api.Node{Kind: api.One}
	for _, c := range []byte(some) {
		n.Set[c/64] |= 1 << (c % 64)
	}
	return n
}

// row is each byte of a text, one behind the other.
func row(text string) api.Node {
	n := api.Node{Kind: api.Row}
	for k := range len(text) {
		n.Kids = append(n.Kids, one(text[k:k+1]))
	}
	return n
}

func group(number int, n api.Node) api.Node {
	return api.Node{Kind: api.Group, Number: number, Kids: []api.Node{n}}
}

func parsed(t testing.TB, text string, extended bool) api.Node {
	t.Helper()
	n, e := pattern.Parse(text, extended)
	if e != api.OK {
		t.Fatalf("no pattern: %q", text)
	}
	return n
}

// plain and whole are pieces of templates.
func plain(text string) api.Piece {
	return api.Piece{Text: text, N: -1}
}

func whole(number int) api.Piece {
	return api.Piece{N: number}
}

// at is a command at another place.
func at(p complex128, c api.Command) api.Command {
	c.Place = p
	return c
}

// command is one of just a letter.
func command(name byte) api.Command {
	return api.Command{Place: 1 + 1i, Name: name}
}

// right is a command, and what it is written as, alone at the beginning of a script. open is whether more bytes would be more of its arguments.
type right struct {
	text string
	want api.Command
	open bool
}

// addressed are commands with addresses.
func addressed() []right {
	a, b := one("a"), one("b")
	p := func(from, to api.Address) api.Command {
		return api.Command{Name: 'p', From: from, To: to}
	}
	none := api.Address{}
	return []right{
		{"p", p(none, none), false},
		{"1p", p(line(1), none), false}, {"2 p", p(line(2), none), false}, {"10\t \tp", p(line(10), none), false}, {"007p", p(line(7), none), false}, {"999999999p", p(line(999999999), none), false}, {"000000001p", p(line(1), none), false},
		{"$p", p(last(), none), false}, {"$ p", p(last(), none), false},
		{"/a/p", p(matching(a), none), false}, {"/a/ \tp", p(matching(a), none), false}, {"//p", p(again(), none), false}, {"// p", p(again(), none), false}, {"/ /p", p(matching(one(" ")), none), false}, {`/a\/b/p`, p(matching(row("a/b")), none), false}, {`/\n/p`, p(matching(one("\n")), none), false}, {`/a\\/p`, p(matching(row(`a\`)), none), false}, {"/a;b/p", p(matching(row("a;b")), none), false}, {"/#/p", p(matching(one("#")), none), false}, {"/}/p", p(matching(one("}")), none), false}, {"/\x00\x80\xff/p", p(matching(row("\x00\x80\xff")), none), false},
		{`\,a,p`, p(matching(a), none), false}, {`\,,p`, p(again(), none), false}, {`\,a, p`, p(matching(a), none), false}, {`\,a\,b/,p`, p(matching(row("a,b/")), none), false}, {`\xaxp`, p(matching(a), none), false}, {`\xa\xxp`, p(matching(row("ax")), none), false}, {`\/a/p`, p(matching(a), none), false}, {`\//p`, p(again(), none), false}, {`\ a p`, p(matching(a), none), false}, {"\\\ta\tp", p(matching(a), none), false}, {`\;a;p`, p(matching(a), none), false}, {`\#a#p`, p(matching(a), none), false}, {`\papp`, p(matching(a), none), false}, {`\!a!!p`, api.Command{Name: 'p', From: matching(a), Not: true}, false}, {`\1a1p`, p(matching(a), none), false}, {`\$a$p`, p(matching(a), none), false}, {`\nanp`, p(matching(a), none), false}, {`\n\nnp`, p(matching(one("n")), none), false}, {"\\\x00a\x00p", p(matching(a), none), false}, {"\\\xffa\xffp", p(matching(a), none), false}, {"\\\x80\\\x80\x80p", p(matching(one("\x80")), none), false},
		{"1,2p", p(line(1), line(2)), false}, {"2,1p", p(line(2), line(1)), false}, {"1,1p", p(line(1), line(1)), false}, {"1 ,2p", p(line(1), line(2)), false}, {"1, 2p", p(line(1), line(2)), false}, {"1\t , \t2 \tp", p(line(1), line(2)), false}, {"1,$p", p(line(1), last()), false}, {"$,1p", p(last(), line(1)), false}, {"$,$p", p(last(), last()), false}, {"/a/,/b/p", p(matching(a), matching(b)), false}, {"/a/ , /b/ p", p(matching(a), matching(b)), false}, {"//,//p", p(again(), again()), false}, {"1,//p", p(line(1), again()), false}, {`\,a,,\;b;p`, p(matching(a), matching(b)), false}, {`/a/,\,b,p`, p(matching(a), matching(b)), false}, {"/a/,3p", p(matching(a), line(3)), false}, {"$,/b/p", p(last(), matching(b)), false}, {`\,,,\,,p`, p(again(), again()), false},
	}
}

// negated are commands with and without addresses and !.
func negated() []right {
	return []right{
		{"!p", api.Command{Name: 'p', Not: true}, false}, {"! p", api.Command{Name: 'p', Not: true}, false}, {"!!p", api.Command{Name: 'p', Not: true}, false}, {"! \t! !p", api.Command{Name: 'p', Not: true}, false}, {"1!p", api.Command{Name: 'p', From: line(1), Not: true}, false}, {"1 !p", api.Command{Name: 'p', From: line(1), Not: true}, false}, {"1 ! ! p", api.Command{Name: 'p', From: line(1), Not: true}, false}, {"1,2!p", api.Command{Name: 'p', From: line(1), To: line(2), Not: true}, false}, {"1,2\t!!\tp", api.Command{Name: 'p', From: line(1), To: line(2), Not: true}, false}, {"$!N", api.Command{Name: 'N', From: last(), Not: true}, false}, {"//!d", api.Command{Name: 'd', From: again(), Not: true}, false}, {"!}", api.Command{Name: '}', Not: true}, false}, {"!:a", api.Command{Name: ':', Not: true, Text: "a"}, true}, {"1!{", api.Command{Name: '{', From: line(1), Not: true}, false}, {"!s///", api.Command{Name: 's', Not: true, Again: true, Count: 1}, false},
	}
}

// worded are commands with texts.
func worded() []right {
	a := func(name byte, text string) api.Command {
		return api.Command{Name: name, Text: text}
	}
	return []right{
		{"a\\\nfoo", a('a', "foo\n"), true}, {"i\\\nfoo", a('i', "foo\n"), true}, {"c\\\nfoo", a('c', "foo\n"), true}, {"a\\\n", a('a', "\n"), true}, {"a \t\\\nfoo", a('a', "foo\n"), true}, {"a\\\n foo ", a('a', " foo \n"), true}, {"a\\\nfoo\\\nbar", a('a', "foo\nbar\n"), true}, {"c\\\none\\\n\\\nthree", a('c', "one\n\nthree\n"), true}, {"i\\\np;d}#x", a('i', "p;d}#x\n"), true}, {"a\\\n\\a\\\\b\\n", a('a', "a\\bn\n"), true}, {"a\\\n\x00\x80\xff", a('a', "\x00\x80\xff\n"), true}, {"1a\\\nx", api.Command{Name: 'a', From: line(1), Text: "x\n"}, true}, {"$!i\\\nx", api.Command{Name: 'i', From: last(), Not: true, Text: "x\n"}, true}, {"1,2c\\\nx", api.Command{Name: 'c', From: line(1), To: line(2), Text: "x\n"}, true},
		{":a", a(':', "a"), true}, {": a", a(':', "a"), true}, {":\t a \t", a(':', "a"), true}, {":end of it", a(':', "end of it"), true}, {":a}", a(':', "a}"), true}, {":a#b", a(':', "a#b"), true}, {":}", a(':', "}"), true}, {":\x00\xff", a(':', "\x00\xff"), true}, {":" + strings.Repeat("l", 1000), a(':', strings.Repeat("l", 1000)), true},
		{"b", a('b', ""), true}, {"t", a('t', ""), true}, {"b ", a('b', ""), true}, {"t \t", a('t', ""), true}, {"ba", a('b', "a"), true}, {"t a b ", a('t', "a b"), true}, {"b}", a('b', "}"), true}, {"t #", a('t', "#"), true}, {"b\x00", a('b', "\x00"), true}, {"1b x", api.Command{Name: 'b', From: line(1), Text: "x"}, true}, {"1,$t", api.Command{Name: 't', From: line(1), To: last()}, true},
		{"rf", a('r', "f"), true}, {"r f", a('r', "f"), true}, {"r \tf\t ", a('r', "f"), true}, {"w a/b.c", a('w', "a/b.c"), true}, {"w f;p", a('w', "f;p"), true}, {"r f}", a('r', "f}"), true}, {"r #", a('r', "#"), true}, {"w" + strings.Repeat("~", 32), a('w', strings.Repeat("~", 32)), true}, {"1r f", api.Command{Name: 'r', From: line(1), Text: "f"}, true}, {"1,2w f", api.Command{Name: 'w', From: line(1), To: line(2), Text: "f"}, true},
	}
}

// substitutions are commands s.
func substitutions() []right {
	a, g := one("a"), group(1, one("a"))
	s := api.Command{Name: 's', Pattern: a, Template: []api.Piece{plain("b")}, Count: 1}
	with := func(change func(c *api.Command)) api.Command {
		c := s
		change(&c)
		return c
	}
	count := func(n int) api.Command { return with(func(c *api.Command) { c.Count = n }) }
	global, printed := with(func(c *api.Command) { c.Global = true }), with(func(c *api.Command) { c.Print = true })
	both := with(func(c *api.Command) { c.Global, c.Print = true, true })
	file := func(path string) api.Command { return with(func(c *api.Command) { c.File = path }) }
	all := api.Command{Name: 's', Pattern: a, Template: []api.Piece{plain("b")}, Count: 12, Global: true, Print: true}
	filed := all
	filed.File = "f"
	template := func(n api.Node, l ...api.Piece) api.Command {
		return api.Command{Name: 's', Pattern: n, Template: l, Count: 1}
	}
	used := func(l ...api.Piece) api.Command {
		return api.Command{Name: 's', Again: true, Template: l, Count: 1}
	}
	return []right{
		{"s/a/b/", s, false}, {"s,a,b,", s, false}, {"sxaxbx", s, false}, {"s a b ", s, false}, {"s\ta\tb\t", s, false}, {"s;a;b;", s, false}, {"s#a#b#", s, false}, {"s}a}b}", s, false}, {"s1a1b1", s, false}, {"s|a|b|", s, false}, {"s.a.b.", s, false}, {"s\x00a\x00b\x00", s, false}, {"s\xffa\xffb\xff", s, false}, {"sgagbg", s, false}, {"swawbw", s, false},
		{"s/a/b/g", global, false}, {"s/a/b/p", printed, false}, {"s/a/b/gp", both, false}, {"s/a/b/pg", both, false}, {"s/a/b/1", s, false}, {"s/a/b/2", count(2), false}, {"s/a/b/007", count(7), false}, {"s/a/b/999999999", count(999999999), false}, {"s/a/b/gp12", all, false}, {"s/a/b/g12p", all, false}, {"s/a/b/12gp", all, false}, {"s/a/b/12pg", all, false}, {"s/a/b/p12g", all, false}, {"s/a/b/pg12", all, false}, {"sgagbgg", global, false}, {"s1a1b12", count(2), false}, {"swawbww f", file("f"), true},
		{"s/a/b/wf", file("f"), true}, {"s/a/b/w f", file("f"), true}, {"s/a/b/w \tf \t", file("f"), true}, {"s/a/b/w f;p}#", file("f;p}#"), true}, {"s/a/b/wg", file("g"), true}, {"s/a/b/ww", file("w"), true}, {"s/a/b/gp12w f", filed, true}, {"s/a/b/12pgwf", filed, true}, {"s/a/b/w" + strings.Repeat("x", 32), file(strings.Repeat("x", 32)), true},
		{"s/a//", template(a), false}, {"s//b/", used(plain("b")), false}, {"s///", used(), false}, {"s,,,", used(), false}, {"s///gw f", api.Command{Name: 's', Again: true, Count: 1, Global: true, File: "f"}, true}, {`s//\9/`, used(whole(9)), false}, {`s//&\1/`, used(whole(0), whole(1)), false},
		{"s/a/&/", template(a, whole(0)), false}, {`s/a/\&/`, template(a, plain("&")), false}, {`s/a/\n/`, template(a, plain("\n")), false}, {"s/a/\\\n/", template(a, plain("\n")), false}, {"s/a/x\\\ny\\\nz/", template(a, plain("x\ny\nz")), false}, {`s/a/\//`, template(a, plain("/")), false}, {`s/a/\\/`, template(a, plain(`\`)), false}, {"s/a/ b;}#c /", template(a, plain(" b;}#c ")), false}, {"s/a/\x00\x80\xff/", template(a, plain("\x00\x80\xff")), false}, {`s&a&\&&`, template(a, whole(0)), false}, {`s1a1\11`, template(a, plain("1")), false}, {`snan\nn`, template(a, plain("n")), false}, {"s,a,/,", template(a, plain("/")), false}, {`s/a/\0/`, template(a, plain("0")), false},
		{`s/\(a\)/\1/`, template(g, whole(1)), false}, {`s/\(a\)/x\1&/`, template(g, plain("x"), whole(1), whole(0)), false}, {`s/\(\(a\)\)/\2\1/`, template(group(1, group(2, a)), whole(2), whole(1)), false}, {`s/\(a\)*/\1/`, template(api.Node{Kind: api.Repeat, Max: -1, Kids: []api.Node{g}}, whole(1)), false},
		{`s/a\/b/c/`, template(row("a/b"), plain("c")), false}, {`s,a\,b,c,`, template(row("a,b"), plain("c")), false}, {`s/\n/,/`, template(one("\n"), plain(",")), false}, {`snan\nbn`, template(a, plain("nb")), false}, {`sn\nnbn`, template(one("n"), plain("b")), false}, {`s.\..b.`, api.Command{Name: 's', Pattern: parsedDot(), Template: []api.Piece{plain("b")}, Count: 1}, false}, {`s*a*b*`, s, false}, {"s/\x00\x80\xff/b/", template(row("\x00\x80\xff"), plain("b")), false}, {"1,2s/a/b/", api.Command{Name: 's', From: line(1), To: line(2), Pattern: a, Template: []api.Piece{plain("b")}, Count: 1}, false},
	}
}

// parsedDot is any byte.
func parsedDot() api.Node {
	return api.Node{Kind: api.One, Set: api.Set{1<<64 - 1, 1<<64 - 1, 1<<64 - 1, 1<<64 - 1}}
}

// exchanged are commands y.
func exchanged() []right {
	y := func(text, other string) api.Command {
		return api.Command{Name: 'y', Text: text, Other: other}
	}
	return []right{
		{"y/a/b/", y("a", "b"), false}, {"y/abc/xyz/", y("abc", "xyz"), false}, {"y/abc/xxx/", y("abc", "xxx"), false}, {"y/ab/ab/", y("ab", "ab"), false}, {"y///", y("", ""), false}, {"y,,,", y("", ""), false}, {"y,a,b,", y("a", "b"), false}, {"y a b ", y("a", "b"), false}, {"y;a;b;", y("a", "b"), false}, {"yxaxbx", y("a", "b"), false}, {"y\x00a\x00b\x00", y("a", "b"), false}, {"y\x80\xff\x80\x00\x80", y("\xff", "\x00"), false},
		{`y/\\/b/`, y(`\`, "b"), false}, {`y/a/\\/`, y("a", `\`), false}, {`y/\n/b/`, y("\n", "b"), false}, {`y/ab/\nc/`, y("ab", "\nc"), false}, {`y/\n\\/\\\n/`, y("\n\\", "\\\n"), false}, {`y/\//b/`, y("/", "b"), false}, {`y/a\/b/\/\/c/`, y("a/b", "//c"), false}, {`y/\\n/ab/`, y(`\n`, "ab"), false}, {`y/\\\n/ab/`, y("\\\n", "ab"), false}, {`y,\,,/,`, y(",", "/"), false}, {`yn\nnan`, y("n", "a"), false}, {`yn\\nan`, y(`\`, "a"), false}, {"y/ ;#}/abcd/", y(" ;#}", "abcd"), false}, {"y/&1/1&/", y("&1", "1&"), false}, {`y/n\n/ab/`, y("n\n", "ab"), false}, {"y/\x00\x80\xff/abc/", y("\x00\x80\xff", "abc"), false}, {"1,$!y/a/b/", api.Command{Name: 'y', From: line(1), To: last(), Not: true, Text: "a", Other: "b"}, false},
	}
}

// rights are all of them.
func rights() []right {
	var l []right
	for _, part := range [][]right{addressed(), negated(), worded(), substitutions(), exchanged()} {
		for _, x := range part {
			x.want.Place = 1 + 1i
			l = append(l, x)
		}
	}
	for _, c := range []byte("{}=qdDgGhHlnNpPx") {
		l = append(l, right{string([]byte{c}), command(c), false})
	}
	return l
}

// P13.1: commands alone, behind others, with others behind them.
func TestCommands(t *testing.T) {
	p := command('p')
	for _, c := range rights() {
		checkCommands(t, c.text, false, c.want)
		checkCommands(t, c.text+"\n", false, c.want)
		checkCommands(t, c.text+"\np", false, c.want, at(complex(float64(2+strings.Count(c.text, "\n")), 1), p))
		checkCommands(t, " \t\n;"+c.text, false, at(2+2i, c.want))
		checkCommands(t, "p;"+c.text, false, p, at(1+3i, c.want))
		checkCommands(t, "p\n\n x;"+c.text, false, p, at(3+2i, command('x')), at(3+4i, c.want))
		checkCommands(t, "{"+c.text, false, command('{'), at(1+2i, c.want))
		checkCommands(t, "{ "+c.text+"\n}", false, command('{'), at(1+3i, c.want), at(complex(float64(2+strings.Count(c.text, "\n")), 1), command('}')))
		checkCommands(t, "# x;d\n"+c.text+"\n# d", false, at(2+1i, c.want))
		if c.open {
			continue
		}
		feeds, column := strings.Count(c.text, "\n"), len(c.text)-strings.LastIndexByte(c.text, '\n')
		end := complex(float64(1+feeds), float64(column))
		checkCommands(t, c.text+" \t", false, c.want)
		checkCommands(t, c.text+";", false, c.want)
		checkCommands(t, c.text+"#d", false, c.want)
		checkCommands(t, c.text+" # d\np", false, c.want, at(complex(float64(2+feeds), 1), p))
		checkCommands(t, c.text+";p", false, c.want, at(end+1i, p))
		checkCommands(t, c.text+" ; ; p", false, c.want, at(end+5i, p))
		checkCommands(t, c.text+"}", false, c.want, at(end, command('}')))
		checkCommands(t, c.text+" }", false, c.want, at(end+1i, command('}')))
		if c.want.Name == '{' {
			checkCommands(t, c.text+"p", false, c.want, at(end, p))
			checkCommands(t, c.text+" 1p", false, c.want, at(end+1i, at(end+1i, api.Command{Name: 'p', From: line(1)})))
			continue
		}
		for _, more := range []string{"p", " p", "!", " 1p", "{", " {", ",", "\r", "\x00", "\xff", "\\", "/", "\v", "&"} {
			if c.want.Name != 's' || more != "p" {
				checkWrong(t, c.text+more, false, 1+1i)
			}
		}
	}
}

// P13.1: what has no command.
func TestNoCommands(t *testing.T) {
	for _, text := range []string{"", " ", "\t", "\n", ";", "#", "#n", "# p\n", "#p;d", "##", "#\n#", " \t;\n; # p ; d } {\n\t;;\n#", ";;;;", "\n\n", "#\\\n", "#\x00\xff", strings.Repeat(" ", 2000), "#" + strings.Repeat("p", 1999), strings.Repeat("#\n", 1000), strings.Repeat(";", 2000)} {
		checkCommands(t, text, false)
		checkCommands(t, text, true)
	}
}

// wrongs are texts of one command that is wrong, whatever follows behind a line feed.
func wrongs() []string {
	return []string{
		"1", "$", "/a/", "1,2", "1,", "1, ", "1,p", "1, p", "1,,2p", ",p", ",2p", "1,2,3p", "$,p", "/a/,p", "1;p", "1#p", "1!", "!", "! !", "1 2p", "1$p", "$1p", "$$p", "1/a/p", "-1p", "+1p", "1+p", "1~2p", "1-2p", "1.5p", "p1", "1,2;p", "1,#p", "1,!p", "1!,2p", "!1p", "!1,2p", "!,p", "1,2!!",
		"0p", "00p", "000000000p", "0,1p", "1,0p", "0", "1234567890p", "0000000001p", "1,1234567890p", "12345678901234567890p", "99999999999999999999999999p",
		"/", "/a", "/ap", "/a\\/p", `/a\`, "//", "/a//p", "//p/", "/[/p", "/[a/p", "/a**/", `/\(/p`, `/\)/p`, `/\(a/p`, `/\x/p`, `/a\{2/p`, `/a\{2\}\{3\}x`, `/a\{21\}/p`, "/[[:no:]]/p", "/a/,/[/p", "/a/,/b", "1,//", `/[\/]p`, "/" + strings.Repeat("a", 201) + "/p", `/\(\)/p`,
		`\`, `\,`, `\,a`, `\,a/p`, `\\a\p`, `\\`, `\ap`, `\pappp`, `\1a11p`, `\,a\,p`, `1,\,a`, `\,[,p`,
		"z", "A", "B", "C", "e", "E", "f", "F", "j", "J", "k", "K", "L", "m", "M", "o", "O", "Q", "R", "S", "T", "u", "U", "v", "V", "W", "X", "Y", "Z", "I", "\\p", "?", "&", "*", "(", ")", "+", "-", ".", "<", ">", "@", "[", "]", "^", "_", "`", "|", "~", "'", "\"", "%", "\x00", "\x7f", "\x80", "\xff", "\r", "\v", "\f", "é", "1z", "1,2z", "!z",
		"1}", "1,2}", "$}", "/a/}", "1!}", "//}", "1:a", "1,2:a", "$!:a", "1,2=", "1,2q", "1,2a\\\nx", "1,2i\\\nx", "1,2r f", "/a/,/b/q", "$,$=", "1,2!a\\\nx", "1, 2 i\\\nx",
		"a", "i", "c", "a ", "a foo", "afoo", "a;p", "a}", "i foo", "c foo", `a\`, `a\foo`, "a \\ ", `c\\`, `i\ foo`, "a#", "1a", "1,2c",
		":", ": ", ":\t", ":;", ": ;a", ":  ; a",
		"r", "w", "r ", "w\t", "r a b", "w a\tb", "r \x1f", "w \x7f", "r \x80", "w f\xff", "r \x00", "w f\r", "r " + strings.Repeat("x", 33), "w" + strings.Repeat("x", 33), "r é", "w a ;p",
		"pp", "p p", "p1", "p!", "p,p", "p{", "p {", "d\x00", "p/a/p", "p\\", "=p", "qq", "}p", "} p", "}{", "x y/a/b/", "p:a", "Dx", "l 1", "n\r",
		"s", "s/", "s/a", "s/a/", "s/a/b", "s//", "s/a/b\\/", `s/a/b\`, `s/a\/b/`, "s,a,b/", `s\a\b\`, `s\\\`, "s/[/b/", "s/**\\(/b/", `s/\)/b/`, `s/a\{/b/`, "s/" + strings.Repeat("a", 201) + "/b/", "s/a/b/x", "s/a/b/ g", "s/a/b/g p", "s/a/b/gg", "s/a/b/pp", "s/a/b/gpg", "s/a/b/pgp", "s/a/b/g1g", "s/a/b/1g2", "s/a/b/1p1", "s/a/b/1 2", "s/a/b/0", "s/a/b/00", "s/a/b/g0", "s/a/b/0g", "s/a/b/1234567890", "s/a/b/0000000001", "s/a/b/g1234567890", "s/a/b/-1", "s/a/b/+1", "s/a/b/G", "s/a/b/i", "s/a/b/I", "s/a/b/e", "s/a/b/m", "s/a/b/,", "s/a/b//", "s/a/b/{", "s/a/b/!", "s/a/b/\x00", "s/a/b/gw", "s/a/b/w", "s/a/b/w ", "s/a/b/w a b", "s/a/b/w \x7f", "s/a/b/wf\xff", "s/a/b/w " + strings.Repeat("x", 33), "s/a/b/W f", "s/a/b/ w f", "s/a/b/gpw", "s/a/b/1w\t",
		`snanb\nnn`, `s/a/\1/`, `s/a/b\2/`, `s/a/&\9/`, `s/\(a\)/\2/`, `s/\(a\)/\1\2/`, `s/\(a\)\(b\)/\3/`, `s/\(\(a\)\)/\3/`, `s/(a)/\1/`, `s,\(a\),\9,`, `s/\\(a\\)/\1/`, "s/a/\\1\\\n/",
		"y", "y/", "y/a", "y/a/", "y/a/b", "y//", "y/a/b\\/", `y\a\b\`, "y/a//", "y//b/", "y/ab/c/", "y/a/bc/", "y/abc/de/", `y/\n/ab/`, `y/\\/ab/`, `y/\//ab/`, `y/ab/\n/`, `y/ab/\\/`, "y/aa/bc/", "y/aba/xyz/", `y/\n\n/ab/`, `y/\\\\/ab/`, `y/\/\//ab/`, `y/\n1\n/abc/`, "y/\x00\x00/ab/", "y/\xff\xff/ab/", `y/\a/b/`, `y/a/\b/`, `y/\t/b/`, `y/a/\&/`, `y/\,/b/`, `y/\1/b/`, `y/\ /b/`, `y/a\/b/`, `y/a/\`, `y/a/b/g`, "y/a/b/ p", "y/a/b/1", "y,a,b/", `yn\nnbnn`, `y/\\\/ab/`, `y/\\\\\/abc/`, `y,\\\,abc,`, "y/a/b/c/", "y/\\\x00/a/", "y/a/\\\xff/",
	}
}

// P13.1: commands that are wrong, alone, behind others, with others behind them.
func TestWrong(t *testing.T) {
	for _, text := range wrongs() {
		for _, c := range []struct {
			ahead string
			p     complex128
		}{{"", 1 + 1i}, {"p;", 1 + 3i}, {"p\n ", 2 + 2i}, {"{", 1 + 2i}, {"{{ ", 1 + 4i}, {"#x\n\n", 3 + 1i}, {" \t;", 1 + 4i}, {"s/a/\\\n/;;", 2 + 4i}, {"a\\\nx\\\ny\n", 4 + 1i}, {"b x\n}; ", 2 + 4i}} {
			checkWrong(t, c.ahead+text, false, c.p)
			if !strings.HasSuffix(text, `\`) {
				checkWrong(t, c.ahead+text+"\np", false, c.p)
				checkWrong(t, c.ahead+text+"\nz", false, c.p)
			}
		}
	}
}

// A line feed within what has none, told alone, since what follows it is no more of it.
func TestLineFeeds(t *testing.T) {
	for _, text := range []string{"1\np", "1\n,2p", "1,\n2p", "1!\np", "!\np", "/a\nb/p", "/a\\\nb/p", "/\n/p", "\\\na\np", "\\,a\n,p", "\\,a\\\n,p", "s\na\nb\n", "s/a\n/b/", "s/a\\\n/b/", "s/a/b\n/", "s/a/\n/", "y/a\n/bc/", "y/a\\\n/bc/", "y/a/\n/", "y/a/\\\n/", "y\na\nb\n", "a\nfoo", "a\\\\\nfoo", ":\na", "r\nf", "w\nf", "s/a/b/w\nf", "s/\na/b/", "1,2\np", "$\np", "s\\\n/a/b/", "y\\\n/a/b/"} {
		checkWrong(t, text, false, 1+1i)
		checkWrong(t, "p\n"+text, false, 2+1i)
	}
	checkCommands(t, "b\nx", false, command('b'), at(2+1i, command('x')))
	checkCommands(t, "t \nx", false, command('t'), at(2+1i, command('x')))
	checkCommands(t, "{\nx\n}", false, command('{'), at(2+1i, command('x')), at(3+1i, command('}')))
	checkCommands(t, "s/a/b/\ng", false, api.Command{Place: 1 + 1i, Name: 's', Pattern: one("a"), Template: []api.Piece{plain("b")}, Count: 1}, at(2+1i, command('g')))
}
