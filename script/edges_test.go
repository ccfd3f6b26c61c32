package script_test

import (
	"regexp"
	"strconv"
	"strings"
	"testing"

	"headgate/api"
	"headgate/pattern"
	"headgate/script"
)

// checkLimit says that a script is beyond a limit.
func checkLimit(t *testing.T, text string) {
	t.Helper()
	check(t, text, false, told{e: api.ErrLimit})
	check(t, text, true, told{e: api.ErrLimit})
}

// P13.1: the length of a text.
func TestTextSizes(t *testing.T) {
	p := command('p')
	for _, size := range []int{0, 1, 2, 199, 1998, 1999, 2000} {
		fill := strings.Repeat(" ", size)
		checkCommands(t, fill, false)
		if size > 0 {
			checkCommands(t, "p"+fill[1:], false, p)
			checkCommands(t, fill[1:]+"p", false, at(complex(1, float64(size)), p))
			checkCommands(t, "p#"[:min(2, size)]+strings.Repeat("z", max(0, size-2)), false, p)
			checkWrong(t, fill[1:]+"z", false, complex(1, float64(size)))
			checkWrong(t, "z"+fill[1:], false, 1+1i)
		}
	}
	l := strings.Repeat("l", 1999)
	checkCommands(t, ":"+l, false, api.Command{Place: 1 + 1i, Name: ':', Text: l})
	checkCommands(t, "a\\\n"+l[:1997], false, api.Command{Place: 1 + 1i, Name: 'a', Text: l[:1997] + "\n"})
	checkCommands(t, "s//"+l[:1996]+"/", false, api.Command{Place: 1 + 1i, Name: 's', Again: true, Count: 1, Template: []api.Piece{plain(l[:1996])}})
	for _, size := range []int{2001, 2002, 4000, 1 << 20} {
		fill := strings.Repeat(" ", size)
		for _, text := range []string{fill, "p" + fill[1:], "z" + fill[1:], fill[1:] + "p", fill[1:] + "z", "#" + strings.Repeat("z", size-1), strings.Repeat("\n", size), strings.Repeat("p;", size)[:size], strings.Repeat("{", size), strings.Repeat("/", size), strings.Repeat("\x00", size), "s/" + fill[2:], "a\\\n" + fill[3:]} {
			checkLimit(t, text)
		}
	}
}

// P13.1: the number of commands, and what stands in the one too many.
func TestManyCommands(t *testing.T) {
	for _, many := range []int{1, 2, 199, 200} {
		var semicolons, feeds, braces []api.Command
		for k := range many {
			semicolons = append(semicolons, at(complex(1, float64(1+2*k)), command('p')))
			feeds = append(feeds, at(complex(float64(1+k), 1), command('d')))
			braces = append(braces, at(complex(1, float64(1+k)), command('{')))
		}
		p, d := strings.Repeat("p;", many), strings.Repeat("d\n", many)
		for _, behind := range []string{"", ";", " \t\n;; ", "#", "# p;d", "\n#\n#p\n", "\n\n"} {
			checkCommands(t, p+behind, false, semicolons...)
			checkCommands(t, d+behind, false, feeds...)
			checkCommands(t, strings.Repeat("{", many)+behind, false, braces...)
		}
		// The first that is wrong is told, also where it is the last that may be.
		for _, wrong := range []string{"z", "1", "pp", "p p", "s/a/", "1}", "a", "!"} {
			ahead := strings.Repeat("p;", many-1)
			checkWrong(t, ahead+wrong, false, complex(1, float64(2*many-1)))
			checkWrong(t, ahead+wrong+"\n"+strings.Repeat("p;", 300), false, complex(1, float64(2*many-1)))
			checkWrong(t, wrong+"\n"+ahead, false, 1+1i)
			checkWrong(t, wrong+"\n"+ahead+strings.Repeat("d;", 201), false, 1+1i)
		}
	}
	p := strings.Repeat("p;", 200)
	for _, more := range []string{"p", "{", "}", "z", "1", "0", "1,", "s/a/", "/a", `\`, "!", ",", "\x00", "\xff", "a", ":", "1}", "pp", "p;p", "#\np", " \t\n;z", "z#", strings.Repeat("p;", 300), "s/a/b/w f", "&", "y/a/"} {
		checkLimit(t, p+more)
		checkLimit(t, strings.Repeat("{", 200)+more)
		checkLimit(t, strings.Repeat("{", 200)+" \n"+more)
	}
	checkWrong(t, p[:399]+" p", false, 1+399i)
	checkWrong(t, p[:399]+"1", false, 1+399i)
	checkLimit(t, p[:399]+"}")
	checkCommands(t, p[:399]+"#}", false, toldParse(p, false).l...)
}

// ahead are addresses, by their number, with a ! behind them.
func ahead(addresses int) (string, api.Command) {
	c := api.Command{Place: 1 + 1i, Not: true}
	if addresses > 0 {
		c.From = line(1)
	}
	if addresses > 1 {
		c.To = line(2)
	}
	return []string{"!", "1!", "1,2!"}[addresses], c
}

// P13.1: each letter with each number of addresses.
func TestLetters(t *testing.T) {
	for _, x := range []struct {
		letters         string
		most            int
		arguments, text string
	}{{"}", 0, "", ""}, {"=q", 1, "", ""}, {"{dDgGhHlnNpPx", 2, "", ""}, {"ai", 1, "\\\nw", "w\n"}, {"c", 2, "\\\nw", "w\n"}, {":", 0, "w", "w"}, {"bt", 2, "w", "w"}, {"bt", 2, "", ""}, {"r", 1, "w", "w"}, {"w", 2, "w", "w"}} {
		for k := range len(x.letters) {
			for addresses := range 3 {
				text, c := ahead(addresses)
				c.Name, c.Text = x.letters[k], x.text
				text += x.letters[k:k+1] + x.arguments
				if addresses <= x.most {
					checkCommands(t, text, false, c)
				} else {
					checkWrong(t, text, false, 1+1i)
				}
			}
		}
	}
}

// P13.1: bytes that are no letters, whatever is behind them.
func TestNoLetters(t *testing.T) {
	for c := range 256 {
		s := string([]byte{byte(c)})
		if strings.Contains("{}=qdDgGhHlnNpPxaic:btrwsy! \t", s) {
			continue
		}
		for addresses := range 3 {
			text, _ := ahead(addresses)
			for _, arguments := range []string{"", "w", "\\\nw", "/a/b/", "p", ";p"} {
				checkWrong(t, text+s+arguments, false, 1+1i)
			}
		}
	}
}

// The letters, all together: as many as the chapter's table has.
func TestLetterCount(t *testing.T) {
	var right [3]string
	for addresses, ahead := range []string{"", "1", "1,2"} {
		for c := range 256 {
			for _, arguments := range []string{"", "\\\nx", "x", "/a/b/"} {
				name := string([]byte{byte(c)})
				l, _, e := script.Parse(ahead+name+arguments, false)
				if e == api.OK && len(l) == 1 && l[0].Name == byte(c) && (l[0].From.Kind != api.NoAddress) == (addresses > 0) {
					right[addresses] += name
					break
				}
			}
		}
	}
	if right[0] != ":=DGHNPabcdghilnpqrstwxy{}" || right[1] != "=DGHNPabcdghilnpqrstwxy{" || right[2] != "DGHNPbcdghlnpstwxy{" {
		t.Errorf("%q", right)
	}
}

// Each byte as the delimiter of an address, of s and of y.
func TestDelimiters(t *testing.T) {
	for c := range 256 {
		s := string([]byte{byte(c)})
		address, substitution, exchange := "\\"+s+"~"+s+" p", "s"+s+"~"+s+"_"+s, "y"+s+"~"+s+"_"+s
		p := api.Command{Place: 1 + 1i, Name: 'p', From: matching(one("~"))}
		replaced := api.Command{Place: 1 + 1i, Name: 's', Pattern: one("~"), Template: []api.Piece{plain("_")}, Count: 1}
		changed := api.Command{Place: 1 + 1i, Name: 'y', Text: "~", Other: "_"}
		switch s {
		case "\\", "\n":
			for _, text := range []string{address, substitution, exchange} {
				checkWrong(t, text, false, 1+1i)
			}
		case "~":
			p.From = again()
			checkWrong(t, address, false, 1+1i)
			checkCommands(t, `\~~p`, false, p)
			checkWrong(t, substitution, false, 1+1i)
			checkWrong(t, exchange, false, 1+1i)
		case "_":
			checkCommands(t, address, false, p)
			checkWrong(t, substitution, false, 1+1i)
			checkWrong(t, exchange, false, 1+1i)
		default:
			checkCommands(t, address, false, p)
			checkCommands(t, substitution, false, replaced)
			checkCommands(t, substitution+";p", false, replaced, at(1+8i, command('p')))
			checkCommands(t, exchange, false, changed)
			checkCommands(t, exchange+"\nx", false, changed, at(2+1i, command('x')))
		}
		for _, ahead := range []string{"", "p;", "\n"} {
			for _, text := range []string{address, substitution, exchange, "/" + s + "/p", "s/a/" + s + "/", "s/" + s + "/a/", "s/a/b/" + s, "y/" + s + "/a/", "y/a/" + s + "/", `/\` + s + "/p", `s/a/\` + s + "/", `s/\` + s + "/a/", `y/\` + s + "/a/", `y/a/\` + s + "/", `s` + s + `\` + s + s + s, `y` + s + `\` + s + s + "a" + s, `\` + s + `\` + s + s + "p"} {
				checkTold(t, ahead+text, false)
				checkTold(t, ahead+text, true)
			}
		}
	}
}

// Each byte ahead of a command, behind one, and within what it has.
func TestEachByte(t *testing.T) {
	for c := range 256 {
		s := string([]byte{byte(c)})
		p := command('p')
		switch s {
		case " ", "\t", ";":
			checkCommands(t, s+"p", false, at(1+2i, p))
			checkCommands(t, "p"+s, false, p)
		case "\n":
			checkCommands(t, s+"p", false, at(2+1i, p))
			checkCommands(t, "p"+s, false, p)
		case "#":
			checkCommands(t, s+"p", false)
			checkCommands(t, "p"+s, false, p)
		case "}":
			checkWrong(t, s+"p", false, 1+1i)
			checkCommands(t, "p"+s, false, p, at(1+2i, command('}')))
		default:
			checkWrong(t, "p"+s, false, 1+1i)
			checkWrong(t, "p "+s, false, 1+1i)
		}
		path := c > 32 && c < 127
		for _, x := range []struct {
			text string
			want api.Command
		}{{"r a" + s + "b", api.Command{Name: 'r', Text: "a" + s + "b"}}, {"w a" + s + "b", api.Command{Name: 'w', Text: "a" + s + "b"}}, {"s///w a" + s + "b", api.Command{Name: 's', Again: true, Count: 1, File: "a" + s + "b"}}} {
			x.want.Place = 1 + 1i
			if path {
				checkCommands(t, x.text, false, x.want)
			} else if s != "\n" {
				checkWrong(t, x.text, false, 1+1i)
			}
		}
		for _, text := range []string{s, s + "p", "p" + s, "p" + s + "p", "p " + s, "1" + s + "p", "1" + s + "2p", "1," + s + "2p", "1,2" + s + "p", "1!" + s + "p", "{" + s, "{" + s + "p", "}" + s, "#" + s + "p", ":a" + s, ": " + s + "b", "b" + s, "b a" + s + "b", "r" + s, "r a" + s + "b", "w " + s, "s/a/b/" + s, "s/a/b/g" + s, "s/a/b/w" + s, "s/a/b/w" + s + "x", "y/a/b/" + s, "a" + s, "a" + s + "\\\nx", "a\\" + s + "x", "a\\\n" + s + "x", "a\\\nx\\" + s, "a\\\nx\\" + s + "y", "a\\\nx" + s + "p", "/a/" + s + "p", "$" + s + "p"} {
			checkTold(t, text, false)
			checkTold(t, "p\n"+text+"\nx", false)
		}
	}
}

// P13.1: numbers, as addresses and as counts.
func TestNumbers(t *testing.T) {
	for _, n := range []int{1, 2, 9, 10, 99, 100, 12345, 99999999, 100000000, 999999999} {
		s := strconv.Itoa(n)
		checkCommands(t, s+"p", false, api.Command{Place: 1 + 1i, Name: 'p', From: line(n)})
		checkCommands(t, "1,"+s+"p", false, api.Command{Place: 1 + 1i, Name: 'p', From: line(1), To: line(n)})
		checkCommands(t, "s///"+s, false, api.Command{Place: 1 + 1i, Name: 's', Again: true, Count: n})
		checkCommands(t, "s///g"+s+"p", false, api.Command{Place: 1 + 1i, Name: 's', Again: true, Count: n, Global: true, Print: true})
	}
	for size := range 30 {
		for _, digit := range []string{"0", "1", "9"} {
			s := strings.Repeat(digit, size)
			for _, text := range []string{s + "p", "1," + s + "p", s + ",1p", "s/a/b/" + s, "s/a/b/" + s + "g", "s/a/b/p" + s, "0" + s + "p", s + "5p"} {
				checkTold(t, text, false)
			}
			if size > 9 || digit == "0" && size > 0 {
				checkWrong(t, s+"p", false, 1+1i)
				checkWrong(t, "1,"+s+"p", false, 1+1i)
				checkWrong(t, "s/a/b/"+s, false, 1+1i)
				checkWrong(t, "s/a/b/g"+s, false, 1+1i)
			}
		}
	}
}

// P13.1: the lengths of paths.
func TestPathSizes(t *testing.T) {
	for size := range 40 {
		path := strings.Repeat("p", size)
		for _, text := range []string{"r " + path, "w\t" + path + " ", "s///w" + path} {
			if size >= 1 && size <= 32 {
				l, _, e := script.Parse(text, false)
				if e != api.OK || len(l) != 1 || l[0].Text+l[0].File != path {
					t.Fatalf("%q: %v, %v", text, l, e)
				}
			} else {
				checkWrong(t, text, false, 1+1i)
			}
		}
	}
}

// P13.1: the lengths of patterns, as they are when they are cut.
func TestPatternSizes(t *testing.T) {
	for _, size := range []int{1, 2, 100, 199, 200, 201, 202, 300} {
		a := strings.Repeat("a", size)
		for _, text := range []string{"/" + a + "/p", "1,/" + a + "/p", `\,` + a + ",p", "s/" + a + "/b/", "/" + strings.Repeat(`\/`, size) + "/p", "s," + strings.Repeat(`\,`, size) + ",b,"} {
			if size <= 200 {
				l, _, e := script.Parse(text, false)
				if e != api.OK || len(l) != 1 || pattern.Size(l[0].From.Pattern)+pattern.Size(l[0].To.Pattern)+pattern.Size(l[0].Pattern) != 2+pattern.Size(parsed(t, a, false)) {
					t.Fatalf("%q: %v, %v", short(text), len(l), e)
				}
			} else {
				checkWrong(t, text, false, 1+1i)
			}
		}
	}
}

// P13.1: basic patterns and extended ones.
func TestBothSyntaxes(t *testing.T) {
	a, g := one("a"), group(1, one("a"))
	s := func(n api.Node, l ...api.Piece) api.Command {
		return api.Command{Place: 1 + 1i, Name: 's', Pattern: n, Template: l, Count: 1}
	}
	p := func(n api.Node) api.Command {
		return api.Command{Place: 1 + 1i, Name: 'p', From: matching(n)}
	}
	checkCommands(t, `/\(a\)/p`, false, p(g))
	checkCommands(t, `/(a)/p`, true, p(g))
	checkCommands(t, `/(a)/p`, false, p(row("(a)")))
	checkCommands(t, `/\(a\)/p`, true, p(row("(a)")))
	checkCommands(t, `s/\(a\)/\1/`, false, s(g, whole(1)))
	checkCommands(t, `s/(a)/\1/`, true, s(g, whole(1)))
	checkWrong(t, `s/(a)/\1/`, false, 1+1i)
	checkWrong(t, `s/\(a\)/\1/`, true, 1+1i)
	checkCommands(t, `\,a|b,p`, true, p(api.Node{Kind: api.Either, Kids: []api.Node{a, one("b")}}))
	checkCommands(t, `\,a|b,p`, false, p(row("a|b")))
	checkCommands(t, `1,/a+/p`, true, api.Command{Place: 1 + 1i, Name: 'p', From: line(1), To: matching(api.Node{Kind: api.Repeat, Min: 1, Max: -1, Kids: []api.Node{a}})})
	checkCommands(t, `1,/a+/p`, false, api.Command{Place: 1 + 1i, Name: 'p', From: line(1), To: matching(row("a+"))})
	// A delimiter that was guarded is a byte of the pattern like others: here it divides alternatives.
	checkCommands(t, `s|a\|b|c|`, true, s(api.Node{Kind: api.Either, Kids: []api.Node{a, one("b")}}, plain("c")))
	checkCommands(t, `s|a\|b|c|`, false, s(row("a|b"), plain("c")))
	for _, text := range []string{"/(/p", "/)/p", "/+/p", "/a{2/p", "/a|/p", "s/(/b/", "s/a|/b/", `s/(a)/\2/`, "/a**b/p"} {
		checkWrong(t, text, true, 1+1i)
		checkWrong(t, "p\n"+text, true, 2+1i)
	}
	for groups := range 11 {
		basic, extended := strings.Repeat(`\(a\)`, groups)+"b", strings.Repeat(`(a)`, groups)+"b"
		nested := strings.Repeat("(a|", groups) + "b" + strings.Repeat(")", groups)
		for n := 1; n < 10; n++ {
			template := `/x\` + strconv.Itoa(n) + "&/"
			for _, x := range []struct {
				text     string
				extended bool
			}{{"s/" + basic + template, false}, {"s/" + extended + template, true}, {"s/" + nested + template, true}} {
				if n <= groups && groups <= 9 {
					l, _, e := script.Parse(x.text, x.extended)
					if e != api.OK || len(l[0].Template) != 3 || l[0].Template[1] != whole(n) {
						t.Fatalf("%q: %v, %v", x.text, l, e)
					}
				} else {
					checkWrong(t, x.text, x.extended, 1+1i)
				}
			}
			checkCommands(t, "s/"+template, false, api.Command{Place: 1 + 1i, Name: 's', Again: true, Count: 1, Template: []api.Piece{plain("x"), whole(n), whole(0)}})
		}
	}
}

// P13.1: the places of commands on several lines, told by hand.
func TestPlaces(t *testing.T) {
	text := "#n\n  1p ; 2p\n\n{ x;y/;/\\n/ }\n\ta\\\none\\\ntwo\ns/a/b\\\nc/;g\n/x/,/y/ {h}#\n: l\n b l ; t\nw f;p\n}"
	want := []struct {
		name byte
		p    complex128
	}{{'p', 2 + 3i}, {'p', 2 + 8i}, {'{', 4 + 1i}, {'x', 4 + 3i}, {'y', 4 + 5i}, {'}', 4 + 13i}, {'a', 5 + 2i}, {'s', 8 + 1i}, {'g', 9 + 4i}, {'{', 10 + 1i}, {'h', 10 + 10i}, {'}', 10 + 11i}, {':', 11 + 1i}, {'b', 12 + 2i}, {'t', 12 + 8i}, {'w', 13 + 1i}, {'}', 14 + 1i}}
	l, p, e := script.Parse(text, false)
	if len(l) != len(want) || p != 0 || e != api.OK {
		t.Fatalf("%d commands, %v, %v", len(l), p, e)
	}
	for k, c := range l {
		if c.Name != want[k].name || c.Place != want[k].p {
			t.Errorf("command %d: %c at %v", k, c.Name, c.Place)
		}
	}
	// Whatever is wrong in a command, and however far behind: the place is that of its first byte.
	for _, c := range []struct {
		text string
		p    complex128
	}{{"p\n 1,2\t! s/a/b\\\nc\\\nd/gg", 2 + 2i}, {"p\n\n\n   $!z", 4 + 4i}, {"a\\\nx\\\ny\n  /a/,/[/p", 4 + 3i}, {"s/a/\\\n\\\n/p p", 1 + 1i}, {"s/a/\\\n\\\n/p;p p", 3 + 4i}, {"{{p;;d}\n};1,2}", 2 + 3i}, {"#x\n#\n#z\n #\n  y/a/bc/", 5 + 3i}, {"p;\t1\n,2p", 1 + 4i}} {
		checkWrong(t, c.text, false, c.p)
	}
}

// P13.1: Quiet.
func TestQuiet(t *testing.T) {
	for _, c := range []struct {
		text string
		want bool
	}{
		{"#n", true}, {"#n\n", true}, {"#n\np", true}, {"#n\n\n", true}, {"#n\nz", true}, {"#n\n#n", true}, {"#n\n\x00\xff", true}, {"#n\n" + strings.Repeat("x", 5000), true},
		{"", false}, {"#", false}, {"n", false}, {"#\n", false}, {"#no", false}, {"#n ", false}, {"#n ;", false}, {"#n;", false}, {"#n;\n", false}, {"#n \n", false}, {"#n\t\n", false}, {"#n\r\n", false}, {"#n\x00", false}, {"#n\xff\n", false}, {"#N", false}, {"#N\n", false}, {"# n", false}, {" #n", false}, {" #n\n", false}, {"\n#n\n", false}, {";#n\n", false}, {"p\n#n\n", false}, {"##n\n", false}, {"#nn\n", false}, {"#n#\n", false}, {"\n", false}, {"n\n", false}, {"p", false}, {"#p\n", false}, {"/n\n", false}, {"#m\n", false}, {"\x23n", true}, {"#n\\\n", false},
	} {
		if got := script.Quiet(c.text); got != c.want {
			t.Errorf("Quiet(%q): %v", short(c.text), got)
		}
	}
	list := []string{""}
	for k := 0; k < len(list); k++ {
		if got, want := script.Quiet(list[k]), regexp.MustCompile(`\A#n(\n|\z)`).MatchString(list[k]); got != want {
			t.Errorf("Quiet(%q): %v", list[k], got)
		}
		for _, c := range []string{"#", "n", "\n", "p", " "} {
			if len(list[k]) < 5 {
				list = append(list, list[k]+c)
			}
		}
	}
	for c := range 256 {
		s := string([]byte{byte(c)})
		if script.Quiet("#n"+s) != (c == '\n') || script.Quiet(s+"n\n") != (c == '#') || script.Quiet("#"+s+"\n") != (c == 'n') || script.Quiet("#n\n"+s) != true {
			t.Errorf("Quiet with %q", s)
		}
	}
}
