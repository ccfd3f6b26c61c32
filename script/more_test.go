package script_test

import (
	"slices"
	"strconv"
	"strings"
	"sync"
	"testing"

	"headgate/api"
	"headgate/pattern"
	"headgate/place"
	"headgate/replace"
	"headgate/script"
)

// numbers is a source of numbers that are the same each time.
type numbers struct{ x uint64 }

func (r *numbers) below(n int) int {
	r.x ^= r.x << 13
	r.x ^= r.x >> 7
	r.x ^= r.x << 17
	return int(r.x >> 33 % uint64(n))
}

func numbersOf(seed int) *numbers {
	return &numbers{uint64(seed)*0x9e3779b97f4a7c15 + 1}
}

// text is one of n bytes of an alphabet.
func (r *numbers) text(n int, alphabet string) string {
	b := make([]byte, n)
	for i := range b {
		b[i] = alphabet[r.below(len(alphabet))]
	}
	return string(b)
}

// some is one of some texts.
func (r *numbers) some(l ...string) string {
	return l[r.below(len(l))]
}

// everyByte is an alphabet of all bytes.
func everyByte() string {
	b := make([]byte, 256)
	for c := range b {
		b[c] = byte(c)
	}
	return string(b)
}

// Every short text of some parts, held against the chapter's words.
func TestShortTexts(t *testing.T) {
	for _, c := range []struct {
		parts []string
		size  int
	}{
		{strings.Split("p;{}# \n", ""), 5}, {strings.Split("1,$!p /\\", ""), 5}, {strings.Split("s/a\\1gp", ""), 6}, {[]string{"s/a/b/", "g", "p", "0", "1", "w", "f", " ", "\n", ";"}, 4}, {strings.Split("y/\\nab", ""), 6}, {[]string{"y/", "/", `\`, "n", "a", "b"}, 6}, {strings.Split("a\\\nx ;", ""), 6}, {strings.Split(":b;\n }", ""), 5}, {[]string{"r", "w", "f", " ", ";", "\n", "\x7f"}, 5}, {[]string{"s//", "s/(a)/", `s/\(a\)/`, `\1`, `\2`, "&", "/", "\\\n", "p"}, 4}, {[]string{`\,`, "/", ",", "a", "*", "[", "p", `\`}, 5}, {[]string{"1", "0", "999999999", ",", "$", "p", "=", "}"}, 4}, {[]string{"#n", "#", "\n", "p", "a\\\n", "\\"}, 6},
	} {
		list := []string{""}
		scripts := 0
		for from, n := 0, c.size; n > 0; n-- {
			to := len(list)
			for ; from < to; from++ {
				for _, p := range c.parts {
					list = append(list, list[from]+p)
				}
			}
		}
		for k, text := range list {
			if checkTold(t, text, k%2 == 0) {
				scripts++
			}
		}
		if scripts < 30 {
			t.Errorf("only %d of %d texts of %q are scripts", scripts, len(list), c.parts)
		}
	}
}

// parts is a text that is joined from what means something.
func (r *numbers) parts() string {
	l := []string{"p", "d", "=", "q", "x", "1", "2,3", "$", ",", "/a/", "//", `\,a,`, `/\(a\)/`, "/(a)+/", "!", " ", "\t", "\n", "\n", "\n", ";", ";", ";", "{", "}", "#", "# x\n", "#n\n", "s/a/b/", "s/a/b/g", "s,a,b,2p", "s///", `s/\(a\)/\1/`, `s/(a)/\1/`, "s/a/b/w f", "g", "w out\n", "r in\n", "y/ab/cd/", `y/\n/\\/`, "a\\\nx\n", "i\\\nx\\\ny\n", "c \\\n", ":l\n", ": l ;", "b l;", "b;", "t\n", "0", "z", "\\", "/", "\x00", "\xff", "\x80"}
	text := ""
	for range 1 + r.below(12) {
		text += l[r.below(len(l))]
	}
	return text
}

// alphabet is an arbitrary one: a few bytes that mean much, or all there are.
func (r *numbers) alphabet() string {
	return r.some("p;\n{} 1,$!", "s/a\\b&1gp;\n", "y/ab\\n;", "aic\\\n x;", ":bt x;\n}", "rw f;\n/", "/\\,a!p1$\n", "pdDgGhHlnNx=q;\n", "0123456789,p;", everyByte())
}

func TestArbitraryTexts(t *testing.T) {
	scripts := 0
	for seed := range 60000 {
		r := numbersOf(seed)
		text := r.parts()
		if seed%3 == 0 {
			text = r.text(r.below(20), r.alphabet())
		}
		if checkTold(t, text, seed%2 == 0) {
			scripts++
		}
		want := strings.HasPrefix(text, "#n\n") || text == "#n"
		if script.Quiet(text) != want {
			t.Fatalf("Quiet(%q): %v", text, !want)
		}
	}
	if scripts < 5000 {
		t.Errorf("only %d were scripts", scripts)
	}
}

// writer writes commands, each in one of the ways in which it may be written.
type writer struct {
	*numbers
	extended bool
	text     string
	l        []api.Command
}

// blanks writes blanks, or none.
func (w *writer) blanks() {
	w.text += w.some("", "", " ", "\t", " \t ")
}

// guarded is a text with a \ ahead of some bytes.
func guarded(text, some string) string {
	s := ""
	for _, c := range []byte(text) {
		if strings.IndexByte(some, c) >= 0 {
			s += `\`
		}
		s += string([]byte{c})
	}
	return s
}

// delim is one ahead of which no \ of a pattern stands: what a \ and a delimiter mean there, nothing can be written as.
func (w *writer) delim(source string) string {
	d := w.some("/", "/", ",", ";", "#", "%", " ", "\t", "}", "\x01", "\xfe", ":", "!", "_")
	if strings.Contains(source, `\`+d) {
		return "/"
	}
	return d
}

// source is an arbitrary pattern, or none.
func (w *writer) source() string {
	if w.below(8) == 0 {
		return ""
	}
	l := []string{"a", "b", "ab*", ".", "[a-c]", "[^]]", "^", "^a", `\n`, `\.`, `x\\`, "\x00", "\xff", "/"}
	if w.extended {
		l = append(l, "(a)", "(a|b)", "((a)b)", "a+", "b?", "(a){2}", "^(a)$")
	} else {
		l = append(l, `\(a\)`, `\(ab\)*`, `\(\(a\)b\)`, `a\{1,\}`, `b\{2\}`, `^\(a\)$`, "a$")
	}
	return w.some(l...)
}

// pattern writes a pattern and the delimiter behind it.
func (w *writer) pattern(s, delim string) (api.Node, bool) {
	w.text += guarded(s, delim) + delim
	if s == "" {
		return api.Node{}, true
	}
	n, e := pattern.Parse(s, w.extended)
	if e != api.OK {
		panic(s)
	}
	return n, false
}

// address writes an address.
func (w *writer) address() api.Address {
	defer w.blanks()
	switch w.below(4) {
	case 0:
		w.text += "$"
		return api.Address{Kind: api.Last}
	case 1:
		n := 1 + w.below([]int{9, 100, 999999999}[w.below(3)])
		s := strconv.Itoa(n)
		w.text += strings.Repeat("0", w.below(10-len(s))) + s
		return api.Address{Kind: api.Line, Line: n}
	}
	s := w.source()
	delim := w.delim(s)
	if delim != "/" || w.below(2) == 0 {
		w.text += `\`
	}
	w.text += delim
	n, empty := w.pattern(s, delim)
	if empty {
		return api.Address{Kind: api.Again}
	}
	return api.Address{Kind: api.Pattern, Pattern: n}
}

// command writes a command, and tells whether its arguments go on up to the end of the line, or up to a ; of it.
func (w *writer) command() (toFeed, toColon bool) {
	p, e := place.At(w.text, len(w.text))
	c := api.Command{Place: p}
	if e != api.OK {
		panic(w.text)
	}
	most := w.below(3)
	c.Name = [3]string{"}:=qairdpsy", "=qair{dgpsy", "{dDgGhHlnNpPxcbtwsy"}[most][w.below([]int{11, 11, 19}[most])]
	most = min(most, mostAddresses(c.Name))
	if most > 0 {
		c.From = w.address()
	}
	if most > 1 {
		w.text += ","
		w.blanks()
		c.To = w.address()
	}
	for w.below(4) == 0 {
		c.Not = true
		w.text += "!"
		w.blanks()
	}
	w.text += string([]byte{c.Name})
	toFeed, toColon = w.arguments(&c)
	w.l = append(w.l, c)
	return toFeed, toColon
}

// arguments writes the arguments of a letter.
func (w *writer) arguments(c *api.Command) (toFeed, toColon bool) {
	switch c.Name {
	case 'a', 'i', 'c':
		s := w.word(w.below(10), "ab ;}#\t\\\n\x00\xff")
		c.Text = s + "\n"
		w.blanks()
		w.text += "\\\n" + guarded(s, "\\\n")
		return true, false
	case ':', 'b', 't':
		c.Text = strings.Trim(w.word(w.below(6), "ab} #\t\\,\x00\xff"), " \t")
		if c.Name == ':' && c.Text == "" {
			c.Text = "l"
		}
		w.blanks()
		w.text += c.Text
		w.blanks()
		return false, true
	case 'r', 'w':
		c.Text = w.path()
		return true, false
	case 's':
		return w.substitution(c), false
	case 'y':
		w.exchange(c)
	}
	return false, false
}

// word is one of n bytes of an alphabet: the writer's own text hides that of its numbers.
func (w *writer) word(n int, alphabet string) string {
	return w.numbers.text(n, alphabet)
}

// path writes a path.
func (w *writer) path() string {
	s := w.word(1+w.below(32), "ab/.;}#!~\\\"")
	w.blanks()
	w.text += s
	w.blanks()
	return s
}

// substitution writes the arguments of s, and tells whether a file is one of them.
func (w *writer) substitution(c *api.Command) bool {
	source := w.source()
	delim := w.delim(source)
	w.text += delim
	c.Pattern, c.Again = w.pattern(source, delim)
	most := toldGroups(c.Pattern)
	if c.Again {
		most = 9
	}
	s := ""
	for range w.below(6) {
		s += w.some("a", "&", `\&`, `\\`, `\n`, "\\\n", ";", "}", " ", "x", "1", `\0`, "\x00", "\xff")
		if most > 0 && w.below(2) == 0 {
			s += `\` + strconv.Itoa(1+w.below(most))
		}
	}
	w.text += guarded(s, delim) + delim
	c.Template, _ = replace.Parse(s)
	c.Count = 1
	flags := []string{"", "", ""}
	if c.Global = w.below(2) == 0; c.Global {
		flags[0] = "g"
	}
	if c.Print = w.below(2) == 0; c.Print {
		flags[1] = "p"
	}
	if w.below(2) == 0 {
		c.Count = 1 + w.below(1000)
		flags[2] = strconv.Itoa(c.Count)
	}
	k := w.below(3)
	flags[0], flags[k] = flags[k], flags[0]
	k = 1 + w.below(2)
	flags[1], flags[k] = flags[k], flags[1]
	w.text += strings.Join(flags, "")
	if w.below(4) > 0 {
		return false
	}
	w.text += "w"
	c.File = w.path()
	return true
}

// exchange writes the arguments of y.
func (w *writer) exchange(c *api.Command) {
	delim := w.delim("")
	w.text += delim
	for _, b := range []byte(w.word(w.below(8), "abcd\\\n/,;#&}")) {
		if strings.IndexByte(c.Text, b) < 0 {
			c.Text += string([]byte{b})
		}
	}
	c.Other = w.word(len(c.Text), "abcd\\\n/,;#&}")
	for _, s := range []string{c.Text, c.Other} {
		s = strings.ReplaceAll(strings.ReplaceAll(s, `\`, `\\`), "\n", `\n`)
		w.text += guarded(s, delim) + delim
	}
}

// gap writes what may stand ahead of commands and at the end.
func (w *writer) gap() {
	for range w.below(3) {
		w.text += w.some(" ", "\t", ";", "\n", "\n", "#\n", "# p;{\n", "#n\n", ";;", "\n\n")
	}
}

// script writes commands, and what is between them.
func (w *writer) script(commands int) {
	w.gap()
	for range commands {
		toFeed, toColon := w.command()
		name := w.l[len(w.l)-1].Name
		switch {
		case toFeed:
			w.text += "\n"
		case toColon:
			w.text += w.some("\n", ";")
		case name == '{' && w.below(2) == 0:
		default:
			w.blanks()
			w.text += w.some("\n", ";", "\n", ";", "#\n", "# x\n")
		}
		w.gap()
	}
	if w.below(4) == 0 {
		w.text += w.some("#", "# p", "#n", "}")
	}
	if strings.HasSuffix(w.text, "}") {
		p, _ := place.At(w.text, len(w.text)-1)
		w.l = append(w.l, at(p, command('}')))
	}
}

// written is an arbitrary script and its commands.
func written(seed, commands int) *writer {
	w := &writer{numbers: numbersOf(seed), extended: seed%2 == 0}
	w.script(commands)
	return w
}

// P13.1: commands that were written are parsed as what they were written from.
func TestWritten(t *testing.T) {
	for seed := range 30000 {
		w := written(seed, seed%7)
		checkCommands(t, w.text, w.extended, w.l...)
	}
	long := 0
	for seed := range 300 {
		w := written(seed, 60)
		if len(w.text) > 2000 {
			check(t, w.text, w.extended, told{e: api.ErrLimit})
			continue
		}
		long++
		checkCommands(t, w.text, w.extended, w.l...)
	}
	if long < 100 {
		t.Errorf("only %d were short enough", long)
	}
}

// A script of which a byte was dropped, doubled or changed, or the end cut off, is told by the chapter's words.
func TestChanged(t *testing.T) {
	scripts := 0
	for seed := range 8000 {
		w := written(seed, 1+seed%4)
		if w.text == "" {
			continue
		}
		k := w.below(len(w.text))
		c := w.some("/", `\`, "\n", ";", "p", "g", "1", "0", ",", "!", "{", "}", "#", " ", "w", "a", "\x00")
		for _, text := range []string{w.text[:k], w.text[k:], w.text[:k] + w.text[k+1:], w.text[:k] + w.text[k:k+1] + w.text[k:], w.text[:k] + c + w.text[k+1:], w.text[:k] + c + w.text[k:]} {
			if checkTold(t, text, w.extended) {
				scripts++
			}
		}
	}
	if scripts < 8000 {
		t.Errorf("only %d were scripts", scripts)
	}
}

// moved are commands, with their places moved by a text and the line feed behind it.
func moved(l []api.Command, text string) []api.Command {
	l = slices.Clone(l)
	for k := range l {
		l[k].Place += complex(float64(1+strings.Count(text, "\n")), 0)
	}
	return l
}

// checkJoined holds two scripts with a line feed between them against each of them.
func checkJoined(t *testing.T, a, b string, extended bool) {
	t.Helper()
	first, _, e := script.Parse(a, extended)
	if e != api.OK {
		t.Fatalf("%q: %v", a, e)
	}
	second, p, e := script.Parse(b, extended)
	switch {
	case len(a)+1+len(b) > 2000 || e == api.ErrLimit:
		check(t, a+"\n"+b, extended, told{e: api.ErrLimit})
	case e == api.OK && len(first)+len(second) > 200:
		check(t, a+"\n"+b, extended, told{e: api.ErrLimit})
	case e == api.OK:
		checkCommands(t, a+"\n"+b, extended, append(first, moved(second, a)...)...)
	default:
		check(t, a+"\n"+b, extended, told{p: p + complex(float64(1+strings.Count(a, "\n")), 0), e: e})
	}
}

// P13.2: scripts joined, with comments, texts and braces at the seam.
func TestJoined(t *testing.T) {
	l := []string{"", " ", "\n", ";", "#", "# x", "#n", "#n\n", "p", "p;", "p # x", "p}", "{", "{p", "}", "{p}", "{ #x", "1,2!{", "a\\\nx", "a\\\n", "a\\\nx\\\ny", "a\\\nx\\\n", "a\\\nx\\\\", "a\\\n# x", "1i\\\n}", "c\\\n;", ":l", ": l ", "b", "b l", "t ;", "b }", "r f", "w f;", "s/a/b/", "s/a/b/g", "s/a/b/w f", "s/a/\\\n/", "s///", "s/x/#/", "y/a/b/", "y///", `y/\n/\\/`, "1p", "$!N", "//d", `\,a,p`, "\n\np\n\n", "#\\", "p #\\", "a\\\nx\n#", "}\n}", "p;;"}
	for _, a := range l {
		for _, b := range l {
			checkJoined(t, a, b, false)
			checkJoined(t, a, b, true)
		}
		for _, b := range wrongs() {
			checkJoined(t, a, b, false)
		}
	}
	for seed := range 10000 {
		a, b := written(2*seed, seed%4), written(2*seed+2, seed%5)
		checkJoined(t, a.text, b.text, true)
		checkCommands(t, a.text+"\n"+b.text, true, append(a.l, moved(b.l, a.text)...)...)
	}
}

// P13.2: as far as the limits.
func TestJoinedLimits(t *testing.T) {
	for _, n := range []int{0, 1, 99, 100, 101, 199, 200} {
		a := strings.Repeat("p;", n)
		for _, m := range []int{0, 1, 99, 100, 101, 199, 200} {
			checkJoined(t, a, strings.Repeat("{", m), false)
			checkJoined(t, a+"#x", strings.Repeat("}\n", m), false)
		}
	}
	for _, size := range []int{0, 1, 999, 1000, 1001, 1998, 1999, 2000} {
		for _, other := range []int{0, 1, 998, 999, 1000, 1001, 1999, 2000} {
			checkJoined(t, strings.Repeat(" ", size), strings.Repeat("\n", other), false)
			checkJoined(t, "#"+strings.Repeat("z", max(0, size-1)), "#"+strings.Repeat(";", max(0, other-1)), false)
		}
	}
}

// Each place is that of a command's first byte, and they increase.
func TestPlacesIncrease(t *testing.T) {
	for seed := range 4000 {
		w := written(seed, seed%9)
		l, _, _ := script.Parse(w.text, w.extended)
		for k, c := range l {
			index, e := place.Index(w.text, c.Place)
			if e != api.OK || strings.IndexByte(" \t\n;#", w.text[index]) >= 0 {
				t.Fatalf("%q: command %d at %v", w.text, k, c.Place)
			}
			if k > 0 && place.Compare(l[k-1].Place, c.Place) != -1 {
				t.Fatalf("%q: command %d at %v is not behind %v", w.text, k, c.Place, l[k-1].Place)
			}
			// Alone, from there on, it is the first command.
			if rest, _, _ := script.Parse(w.text[index:], w.extended); !sameCommand(rest[0], at(1+1i, c)) {
				t.Fatalf("%q: command %d alone is %+v", w.text, k, rest[0])
			}
		}
	}
}

// inputs are texts for every call: scripts, wrong ones, and others.
func inputs() []string {
	l := append(wrongs(), "", "#n", "#n\n", everyByte(), strings.Repeat("p;", 200), strings.Repeat("p;", 201), strings.Repeat("/", 2000), strings.Repeat("\\", 2000), strings.Repeat("{", 2001), strings.Repeat("1,", 1000), strings.Repeat("!", 2000), strings.Repeat("s/a/b/\n", 200), strings.Repeat("#\n", 1000), strings.Repeat("a\\\n", 600), "y/"+everyByte()+"/"+everyByte()+"/", strings.Repeat("\x00", 1<<20), strings.Repeat("z", 1<<22), "s/"+strings.Repeat("(", 200)+"//", `s/`+strings.Repeat(`\(`, 9)+"a"+strings.Repeat(`\)`, 9)+`/\9/`)
	for _, c := range rights() {
		l = append(l, c.text)
	}
	for seed := range 500 {
		l = append(l, written(seed, 1+seed%6).text, numbersOf(seed).parts())
	}
	return l
}

// answer is what a text is answered.
type answer struct {
	told
	quiet bool
}

func ask(text string, extended bool) answer {
	l, p, e := script.Parse(text, extended)
	return answer{told{l, p, e}, script.Quiet(text)}
}

func (a answer) is(b answer) bool {
	return a.p == b.p && a.e == b.e && a.quiet == b.quiet && slices.EqualFunc(a.l, b.l, sameCommand)
}

// P1 and P2 of the document: whatever is given, no call panics, and a call answers the same whatever was asked ahead of it, and on however many sides at once.
func TestTotalAndSame(t *testing.T) {
	l := inputs()
	var first []answer
	for k, s := range l {
		first = append(first, ask(s, k%2 == 0))
	}
	for k := len(l) - 1; k >= 0; k-- {
		if !ask(l[k], k%2 == 0).is(first[k]) {
			t.Errorf("the same text is answered otherwise: %q", short(l[k]))
		}
	}
	var sides sync.WaitGroup
	for side := range 8 {
		sides.Go(func() {
			for k := range l {
				i := (k*3 + side*11) % len(l)
				if !ask(l[i], i%2 == 0).is(first[i]) {
					t.Errorf("the same text is answered otherwise: %q", short(l[i]))
				}
			}
		})
	}
	sides.Wait()
}

// Beside an error there is nothing but, with ErrScript, a place.
func TestErrorsAlone(t *testing.T) {
	for _, text := range inputs() {
		for _, extended := range []bool{false, true} {
			l, p, e := script.Parse(text, extended)
			right := e == api.ErrScript && len(l) == 0 && real(p) >= 1 && imag(p) >= 1
			right = right || e == api.ErrLimit && len(l) == 0 && p == 0
			if !right && (e != api.OK || p != 0) {
				t.Fatalf("%q: %d commands, %v, %v", short(text), len(l), p, e)
			}
		}
	}
}

// nodes are all nodes of a tree.
func nodes(n *api.Node) []*api.Node {
	l := []*api.Node{n}
	for k := range n.Kids {
		l = append(l, nodes(&n.Kids[k])...)
	}
	return l
}

// Results are new memory: whatever is done to one, a later one is as it was, and no two lists of one share any.
func TestResultsAreNew(t *testing.T) {
	for k, text := range inputs() {
		l, p, e := script.Parse(text, k%2 == 0)
		again, _, _ := script.Parse(text, k%2 == 0)
		var trees []*api.Node
		for k := range l {
			c := &l[k]
			trees = append(trees, nodes(&c.Pattern)...)
			trees = append(trees, nodes(&c.From.Pattern)...)
			trees = append(trees, nodes(&c.To.Pattern)...)
			for i := range c.Template {
				c.Template[i] = api.Piece{Text: "other", N: 1000 * k}
			}
			c.Template = append(c.Template, api.Piece{N: k})
		}
		for k, n := range trees {
			n.Number = k
			n.Kids = append(n.Kids, api.Node{Number: -1 - k})
		}
		for k, n := range trees {
			if n.Number != k || n.Kids[len(n.Kids)-1].Number != -1-k {
				t.Fatalf("%q: two lists share memory", short(text))
			}
		}
		for k, c := range l {
			if last := len(c.Template) - 1; c.Template[last].N != k || last > 0 && c.Template[0].N != 1000*k {
				t.Fatalf("%q: two templates share memory", short(text))
			}
		}
		check(t, text, k%2 == 0, told{again, p, e})
	}
}
