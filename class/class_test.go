package class

import (
	"slices"
	"strings"
	"testing"

	"headgate/api"
)

// members are the bytes of a set, each by itself.
type members [256]bool

// of are the bytes of a text.
func of(text string) members {
	var m members
	for _, c := range []byte(text) {
		m[c] = true
	}
	return m
}

// run is a text of the bytes from low to high.
func run(low, high int) string {
	var b []byte
	for c := low; c <= high; c++ {
		b = append(b, byte(c))
	}
	return string(b)
}

func (m members) and(other members) members {
	for c := range other {
		m[c] = m[c] || other[c]
	}
	return m
}

// others are the bytes that aren't members.
func (m members) others() members {
	for c := range m {
		m[c] = !m[c]
	}
	return m
}

func (m members) count() int {
	n := 0
	for _, in := range m {
		if in {
			n++
		}
	}
	return n
}

// set is the one with the members: bit c modulo 64 of word c/64 is 1.
func (m members) set() api.Set {
	var s api.Set
	for word := range 4 {
		bit := uint64(1)
		for k := range 64 {
			if m[64*word+k] {
				s[word] += bit
			}
			bit += bit
		}
	}
	return s
}

// all are all bytes.
func all() members {
	return members{}.others()
}

// edges are the bytes at the edges of the words.
func edges() []byte {
	return []byte{0, 63, 64, 127, 128, 191, 192, 255}
}

// samples are the members of sets of every kind: of no byte, of all, of one, of all but one, and others.
func samples() []members {
	l := []members{{}, all(), of("abc"), of("\x00\xff"), of(string(edges()))}
	for c := range 256 {
		l = append(l, of(string([]byte{byte(c)})), of(string([]byte{byte(c)})).others())
	}
	for k := range 8 {
		var bits, words members
		for c := range 256 {
			bits[c] = c>>k&1 == 1
			words[c] = c*c%(k+3) == 1
		}
		l = append(l, bits, bits.others(), words, words.others(), of(run(32*k, 32*k+31)))
	}
	return l
}

func checkSet(t testing.TB, what string, s api.Set, want members) {
	t.Helper()
	for c, in := range want {
		if Has(s, byte(c)) != in {
			t.Fatalf("%s: %d is in it: %v; want %v", what, c, !in, in)
		}
	}
	if s != want.set() {
		t.Fatalf("%s: %x; want %x", what, s, want.set())
	}
	if n := Count(s); n != want.count() {
		t.Fatalf("%s: %d bytes; want %d", what, n, want.count())
	}
}

func TestHasByHand(t *testing.T) {
	for _, c := range []struct {
		s    api.Set
		only byte
	}{
		{api.Set{1}, 0}, {api.Set{1 << 10}, 10}, {api.Set{1 << 63}, 63}, {api.Set{0, 1}, 64}, {api.Set{0, 2}, 65}, {api.Set{0, 1 << 63}, 127},
		{api.Set{0, 0, 1}, 128}, {api.Set{0, 0, 1 << 63}, 191}, {api.Set{0, 0, 0, 1}, 192}, {api.Set{0, 0, 0, 1 << 62}, 254}, {api.Set{0, 0, 0, 1 << 63}, 255},
	} {
		for x := range 256 {
			if Has(c.s, byte(x)) != (byte(x) == c.only) {
				t.Errorf("Has(%x, %d): %v", c.s, x, Has(c.s, byte(x)))
			}
		}
		if s := With(api.Set{}, c.only, c.only); s != c.s {
			t.Errorf("of %d alone: %x; want %x", c.only, s, c.s)
		}
		if Count(c.s) != 1 || Count(Not(c.s)) != 255 {
			t.Errorf("%x has %d bytes, the others are %d", c.s, Count(c.s), Count(Not(c.s)))
		}
	}
	none, whole := api.Set{}, api.Set{1<<64 - 1, 1<<64 - 1, 1<<64 - 1, 1<<64 - 1}
	if Count(none) != 0 || Count(whole) != 256 || Not(none) != whole || Not(whole) != none || With(none, 0, 255) != whole {
		t.Errorf("no byte, and all bytes")
	}
	if s := With(none, 63, 64); s != (api.Set{1 << 63, 1}) {
		t.Errorf("63 and 64: %x", s)
	}
	if s := With(none, 64, 191); s != (api.Set{0, 1<<64 - 1, 1<<64 - 1, 0}) {
		t.Errorf("64 to 191: %x", s)
	}
	if s := Both(api.Set{5, 0, 1}, api.Set{3, 8, 1}); s != (api.Set{7, 8, 1}) {
		t.Errorf("both: %x", s)
	}
}

func TestSamples(t *testing.T) {
	l := samples()
	for _, m := range l {
		checkSet(t, "a sample", m.set(), m)
		checkSet(t, "Not", Not(m.set()), m.others())
	}
	for i, a := range l {
		for k := i % 5; k < len(l); k += 5 {
			if s := Both(a.set(), l[k].set()); s != a.and(l[k]).set() {
				t.Fatalf("Both(%x, %x): %x", a.set(), l[k].set(), s)
			}
		}
	}
}

// checkWith holds With against the members that it is to have.
func checkWith(t *testing.T, before members, low, high int) {
	t.Helper()
	want := before
	for c := low; c <= high; c++ {
		want[c] = true
	}
	s := With(before.set(), byte(low), byte(high))
	if s != want.set() {
		t.Fatalf("With(%x, %d, %d): %x; want %x", before.set(), low, high, s, want.set())
	}
}

func TestWith(t *testing.T) {
	for low := range 256 {
		for high := range 256 {
			checkWith(t, members{}, low, high)
			checkWith(t, all(), low, high)
			checkWith(t, of("\x00az\x7f\x80\xff"), low, high)
		}
	}
	for _, m := range samples() {
		for _, low := range edges() {
			for _, high := range edges() {
				checkWith(t, m, int(low), int(high))
			}
		}
	}
}

// P8.2: With has the bytes that it names, and those that were there.
func TestWithHas(t *testing.T) {
	for _, m := range samples() {
		before := m.set()
		for _, low := range append(edges(), 'a', '\n') {
			for _, high := range append(edges(), 'z', '\n') {
				s := With(before, low, high)
				for c := range 256 {
					x := byte(c)
					if Has(s, x) != (Has(before, x) || low <= x && x <= high) {
						t.Fatalf("With(%x, %d, %d) has %d: %v", before, low, high, c, Has(s, x))
					}
				}
			}
		}
	}
}

// P8.2: each byte is in a set or in its Not, never in both.
func TestNotHas(t *testing.T) {
	for _, m := range samples() {
		s := m.set()
		not := Not(s)
		for c := range 256 {
			if Has(s, byte(c)) == Has(not, byte(c)) {
				t.Fatalf("%d is in %x and in its Not: %v", c, s, Has(s, byte(c)))
			}
		}
		if Not(not) != s || Count(s)+Count(not) != 256 || Both(s, not) != all().set() {
			t.Fatalf("%x and its Not: %x", s, not)
		}
	}
}

// name is a named set's.
type name struct {
	name  string
	bytes string
}

// names are those of C2.
func names() []name {
	const (
		upper = "ABCDEFGHIJKLMNOPQRSTUVWXYZ"
		lower = "abcdefghijklmnopqrstuvwxyz"
		digit = "0123456789"
		punct = "!\"#$%&'()*+,-./:;<=>?@[\\]^_`{|}~"
	)
	return []name{
		{"alpha", upper + lower},
		{"digit", digit},
		{"alnum", upper + lower + digit},
		{"upper", upper},
		{"lower", lower},
		{"space", "\t\n\v\f\r "},
		{"blank", "\t "},
		{"punct", punct},
		{"print", " " + punct + upper + lower + digit},
		{"graph", punct + upper + lower + digit},
		{"cntrl", run(0, 31) + "\x7f"},
		{"xdigit", digit + "ABCDEFabcdef"},
	}
}

func TestNamed(t *testing.T) {
	sizes := []int{52, 10, 62, 26, 26, 6, 2, 32, 95, 94, 33, 22}
	for i, n := range names() {
		s, ok := Named(n.name)
		if !ok {
			t.Fatalf("Named(%q): %v", n.name, ok)
		}
		checkSet(t, n.name, s, of(n.bytes))
		if Count(s) != sizes[i] {
			t.Errorf("%s: %d bytes; want %d", n.name, Count(s), sizes[i])
		}
	}
}

// strange are texts that are no names, many of them near to one.
func strange() []string {
	l := []string{"", " ", ":", "]", "\n", "\x00", "a", "none", "word", "ascii", "any", "newline", "hex", "alphabet", "digits", "letter", "αλφα", "\xff", strings.Repeat("alpha", 1000), strings.Repeat("x", 1<<16)}
	for _, n := range names() {
		s := n.name
		l = append(l, strings.ToUpper(s), strings.ToUpper(s[:1])+s[1:], s[:len(s)-1]+strings.ToUpper(s[len(s)-1:]), s+" ", " "+s, s+"\n", s+"\x00", "\x00"+s, ":"+s, s+":", ":"+s+":", "["+s+"]", "[:"+s+":]", s+":]", s+s, "^"+s)
		for k := 1; k < len(s); k++ {
			l = append(l, s[:k], s[k:], s[:k]+s[k-1:], s[:k]+" "+s[k:], s[:k]+"\xff"+s[k+1:])
		}
		for _, other := range names() {
			l = append(l, s+other.name, s+","+other.name)
		}
	}
	return slices.DeleteFunc(l, func(s string) bool { // the end of xdigit is a name
		return slices.ContainsFunc(names(), func(n name) bool { return n.name == s })
	})
}

func TestNoName(t *testing.T) {
	for _, s := range strange() {
		if set, ok := Named(s); ok || set != (api.Set{}) {
			t.Errorf("Named(%q): %x, %v", s, set, ok)
		}
	}
}

// No text of up to three letters is a name, nor is one that begins and ends like a name, unless it is one.
func TestFewLetters(t *testing.T) {
	for _, s := range texts("abdeghilnoprtuxcmksw", 3) {
		if set, ok := Named(s); ok || set != (api.Set{}) {
			t.Errorf("Named(%q): %x, %v", s, set, ok)
		}
		for _, n := range names() {
			x := n.name[:1] + s + n.name[len(n.name)-1:]
			is := slices.ContainsFunc(names(), func(n name) bool { return n.name == x })
			if set, ok := Named(x); ok != is || ok == (set == api.Set{}) {
				t.Errorf("Named(%q): %x, %v", x, set, ok)
			}
		}
	}
}

// part is an item of a text, or a whole expression.
type part struct {
	bytes members
	size  int
}

// allowed tells whether the byte at an index may be one of an item.
func allowed(text string, at int, first bool) bool {
	switch text[at] {
	case 10:
		return false
	case ']':
		return first
	case '[':
		after := text[at+1:]
		return !strings.HasPrefix(after, ":") && !strings.HasPrefix(after, ".") && !strings.HasPrefix(after, "=")
	}
	return true
}

// items are all that may begin at an index, each of the three kinds tried by itself.
func items(text string, at int, first bool) []part {
	var l []part
	rest := text[at:]
	if strings.HasPrefix(rest, "[:") {
		for _, n := range names() {
			if whole := "[:" + n.name + ":]"; strings.HasPrefix(rest, whole) {
				l = append(l, part{of(n.bytes), len(whole)})
			}
		}
	}
	if rest == "" || !allowed(text, at, first) {
		return l
	}
	if len(rest) > 2 && rest[1] == '-' && allowed(text, at+2, false) && rest[2] >= rest[0] {
		l = append(l, part{of(run(int(rest[0]), int(rest[2]))), 3})
	}
	if !strings.HasPrefix(rest[1:], "-") || strings.HasPrefix(rest[1:], "-]") {
		l = append(l, part{of(rest[:1]), 1})
	}
	return l
}

// expressions are all that a text begins with.
func expressions(text string) []part {
	begin := 0
	if strings.HasPrefix(text, "^") {
		begin = 1
	}
	var l []part
	var more func(at int, m members)
	more = func(at int, m members) {
		if at > begin && strings.HasPrefix(text[at:], "]") {
			if begin == 1 {
				m = m.and(of("\n")).others()
			}
			l = append(l, part{m, at + 1})
		}
		for _, p := range items(text, at, at == begin) {
			more(at+p.size, m.and(p.bytes))
		}
	}
	more(begin, members{})
	return l
}

// told is what Bracket is to answer, by the chapter's words: all ways to divide a text are tried, of which there is one at most.
func told(t testing.TB, text string) (members, int, api.Errno) {
	t.Helper()
	l := expressions(text)
	if len(l) > 1 {
		t.Fatalf("%q is divided in %d ways", text, len(l))
	}
	if len(l) == 0 {
		return members{}, 0, api.ErrClass
	}
	return l[0].bytes, l[0].size, api.OK
}

// short tells a text, if it isn't too long to be told.
func short(s string) string {
	return s[:min(len(s), 60)]
}

func checkBracket(t testing.TB, text string, want members, size int, err api.Errno) {
	t.Helper()
	s, n, e := Bracket(text)
	if n != size || e != err {
		t.Fatalf("Bracket(%q): %d, %v; want %d, %v", short(text), n, e, size, err)
	}
	if s != want.set() {
		t.Fatalf("Bracket(%q): %x; want %x", short(text), s, want.set())
	}
}

func checkTold(t testing.TB, text string) {
	t.Helper()
	m, n, e := told(t, text)
	checkBracket(t, text, m, n, e)
}

func checkError(t testing.TB, text string) {
	t.Helper()
	checkBracket(t, text, members{}, 0, api.ErrClass)
}

// tails are texts that may stand behind an expression.
func tails() []string {
	return []string{"", "]", "]]", "x", "-", "-z]", "^", "\n", "\x00", "[", "[:", "[:alpha:]]", "[.a.]", ":]", "\\]", strings.Repeat("a", 300)}
}

// texts are all texts of at most n bytes of an alphabet, shorter ones first.
func texts(alphabet string, n int) []string {
	l := []string{""}
	for from := 0; n > 0; n-- {
		to := len(l)
		for ; from < to; from++ {
			for k := range len(alphabet) {
				l = append(l, l[from]+alphabet[k:k+1])
			}
		}
	}
	return l
}

// example is an expression, and what is in its set. (Behind a ^ it is what isn't; nor is the line feed.)
type example struct {
	text  string
	bytes string
}

// examples are told by hand.
func examples() []example {
	alpha, digit := names()[0].bytes, names()[1].bytes
	return []example{
		{"a]", "a"}, {"abc]", "abc"}, {"cba]", "abc"}, {"aa]", "a"}, {"\\]", "\\"}, {"\\n]", "\\n"}, {".*$]", ".*$"}, {" ]", " "}, {"\x00]", "\x00"}, {"\xff]", "\xff"}, {"ä]", "\xc3\xa4"}, {"\r]", "\r"},
		{"a-c]", "abc"}, {"a-a]", "a"}, {"xa-cy]", "abcxy"}, {"a-cb-d]", "abcd"}, {"a-b-c]", "ab-c"}, {"a-bc-d]", "abcd"}, {"\x00-\xff]", run(0, 255)}, {"\x80-\xff]", run(128, 255)}, {"\x7f-\x80]", "\x7f\x80"}, {"\xff-\xff]", "\xff"}, {"\x00-\x00]", "\x00"},
		{"\t-\r]", "\t\n\v\f\r"}, {"\x00-\x1f]", run(0, 31)}, {"\x00-\t]", run(0, 9)}, {"\v-\x7f]", run(11, 127)},
		{"^a]", "a"}, {"^abc]", "abc"}, {"^a-c]", "abc"}, {"^^]", "^"}, {"^^^]", "^"}, {"^a^]", "a^"}, {"a^]", "a^"}, {"^\t-\r]", "\t\v\f\r"}, {"^\x00-\xff]", run(0, 255)}, {"^\x80]", "\x80"},
		{"]]", "]"}, {"]a]", "]a"}, {"^]]", "]"}, {"^]a]", "]a"}, {"]^]", "]^"}, {"]-a]", "]^_`a"}, {"^]-a]", "]^_`a"}, {"]-]", "]-"}, {"^]-]", "]-"}, {"]-_-]", "]^_-"}, {"]--]", ""}, {"]-z-]", run(93, 122) + "-"},
		{"-]", "-"}, {"-a]", "-a"}, {"^-]", "-"}, {"^-a]", "-a"}, {"a-]", "a-"}, {"ab-]", "ab-"}, {"Z-]", "Z-"}, {"z-]", "z-"}, {"^a-]", "a-"}, {"--]", "-"}, {"^--]", "-"}, {"--/]", "-./"}, {"---]", "-"}, {"----]", "-"}, {"--a]", run(45, 97)}, {"+--]", "+,-"}, {"+--a]", "+,-a"}, {"+---]", "+,-"}, {"+---a]", "+,-a"}, {"a-c-]", "abc-"}, {"a-c-e]", "abc-e"}, {"a-c--]", "abc-"}, {"a-c--/]", "abc-./"}, {"a-c-e-g]", "abc-efg"}, {"-a-c]", "-abc"}, {"^-a-c]", "-abc"}, {"[:digit:]-]", digit + "-"}, {"[:digit:]-a]", digit + "-a"}, {"[:digit:]--a]", run(45, 97)}, {"[:digit:]-[:alpha:]]", digit + "-" + alpha}, {"^-^]", "-^"}, {"a-^]", ""},
		{"[]", "["}, {"[a]", "[a"}, {"a[]", "a["}, {"[[]", "["}, {"[[[]", "["}, {"[-]", "[-"}, {"[-a]", run(91, 97)}, {"[-[]", "["}, {"A-[]", run(65, 91)}, {"A-[a]", run(65, 91) + "a"}, {"A-[-]", run(65, 91) + "-"}, {"-[]", "-["}, {"]-[]", ""}, {"][]", "]["}, {"^[]", "["}, {":]", ":"}, {":alpha:]", ":alph"}, {"a:]", "a:"}, {".]", "."}, {"=]", "="}, {"[a:]", "[a:"}, {"[ :]", "[ :"}, {"[a.]", "[a."}, {"[]:]", "["}, {"[:]", ""},
		{"[:alpha:]]", alpha}, {"[:digit:]x]", digit + "x"}, {"x[:digit:]]", digit + "x"}, {"[:digit:][:alpha:]]", digit + alpha}, {"^[:digit:]]", digit}, {"[:space:]]", "\t\n\v\f\r "}, {"^[:space:]]", "\t\v\f\r "}, {"[:cntrl:]]", run(0, 31) + "\x7f"}, {"^[:cntrl:]]", run(0, 31) + "\x7f"}, {"][:digit:]]", "]" + digit}, {"[[:digit:]]", digit + "["}, {"[:digit:]:]", digit + ":"}, {"[:digit:][]", digit + "["}, {"[:digit:]a-c]", digit + "abc"}, {"a-c[:digit:]]", digit + "abc"}, {"-[:digit:]]", digit + "-"},
	}
}

// exprSize is the length of an example that is an expression as a whole or, if there is text behind it, of its beginning.
func exprSize(text string) int {
	if strings.HasPrefix(text, "[]") {
		return 2
	}
	return len(text)
}

func TestExamples(t *testing.T) {
	for _, c := range examples() {
		if c.bytes == "" {
			checkError(t, c.text)
			checkTold(t, c.text)
			continue
		}
		want, size := of(c.bytes), exprSize(c.text)
		if c.text[0] == '^' {
			want = of(c.bytes + "\n").others()
		}
		for _, tail := range tails() {
			checkBracket(t, c.text+tail, want, size, api.OK)
			checkTold(t, c.text+tail)
		}
		for k := range size {
			checkError(t, c.text[:k])
		}
	}
}

func TestErrors(t *testing.T) {
	for _, s := range []string{
		"", "]", "^", "^]", "a", "abc", "^a", "-", "--", "a-", "a-c", "a-z-", "]a", "^]", "^]a", "]-", "[", "[[", "[-", "^[", "\\",
		"c-a]", "b-a]", "\xff-\x00]", "\x80-\x7f]", "a--]", "a--b]", "xc-a]", "a-cc-a]", "^c-a]", "]-A]", "]-[]", "]-[x]", "a-[]", "[-A]",
		"]-\n]", "a-\n]", "\t-\n]", "\n-a]", "\n-\n]", "\n]", "^\n]", "a\n]", "\na]", "a\nb]", "]\n]", "^]\n]", "a-c\n]", "[:alpha:]\n]", "[\n]", "-\n]", "--\n]", "\n", "\n\n",
		"[:none:]]", "[::]]", "[:]", "[:]]", "[: :]]", "[:Alpha:]]", "[:ALPHA:]]", "[:alpha :]]", "[: alpha:]]", "[:^alpha:]]", "[:alpha:", "[:alpha:]", "[:alpha]", "[:alpha]]", "[:alpha", "[:alpha:x]]", "[:alpha:[:digit:]]", "[:alpha;:]]", "[:a-z:]]", "[:alpha\n:]]", "^[:none:]]", "a[:none:]]", "[:digit:][:none:]]", "[:digit:]", "[:digit:]a", "a[:]", "a[:", "[:x]", "[:", "[:a", "[:alpha:]-", "[:alpha:]-z", "[:alpha:]c-a]",
		"[.a.]]", "[.]", "[.", "[.-.]]", "[=a=]]", "[=]", "[=", "a[.]", "a[=]", "a[.a.]]", "][.]", "^[.a.]]", "^[=a=]]", "[[.]", "[[=]", "[[:]", "[[:x:]]",
		"A-[:]", "A-[:alpha:]]", "A-[.]", "A-[.a.]]", "A-[=]", "A-[=a=]]", "a-[:alpha:]]", "[-[:alpha:]]", "+-[:digit:]]", "[:alpha:]--[:digit:]]",
	} {
		checkError(t, s)
		checkTold(t, s)
		if strings.ContainsRune(s, '\n') {
			checkError(t, s+"]")
		}
	}
	for _, s := range strange() {
		for _, text := range []string{"[:" + s + ":]]", "a[:" + s + ":]]", "^[:" + s + ":]]", "[:alpha:][:" + s + ":]]"} {
			checkTold(t, text)
			if !strings.Contains(s, ":]") { // else what is ahead of that might be a name
				checkError(t, text)
			}
		}
	}
}

func TestEveryName(t *testing.T) {
	for _, n := range names() {
		item := "[:" + n.name + ":]"
		want := of(n.bytes)
		checkBracket(t, item+"]", want, len(item)+1, api.OK)
		checkBracket(t, "^"+item+"]", want.and(of("\n")).others(), len(item)+2, api.OK)
		checkBracket(t, "]"+item+"-]x", want.and(of("]-")), len(item)+3, api.OK)
		for k := range len(item) + 1 {
			checkError(t, item[:k])
			checkError(t, "a"+item[:k])
			checkTold(t, item[:k]+"]")
			checkTold(t, item[k:]+"]")
		}
		for _, other := range names() {
			text := item + "[:" + other.name + ":]]"
			checkBracket(t, text, want.and(of(other.bytes)), len(text), api.OK)
		}
	}
}

// Each byte stands in each place of an item.
func TestEveryByte(t *testing.T) {
	for c := range 256 {
		b := string([]byte{byte(c)})
		for _, ahead := range []string{"", "^", "a", "]", "^]", "-", "a-", "+-", "a-c", "a-c-", "[", "A-[", "[:alpha:]", "[:alpha:]-", "[:", "[:alpha", "[:alpha:"} {
			for _, behind := range []string{"", "]", "a]", "-]", "-a]", "-\xff]", "--]", ":]", ":]]", ".]", "=]", "]]", "[]", "\n]", "[:digit:]]", "alpha:]]"} {
				checkTold(t, ahead+b+behind)
			}
		}
	}
	for c := range 256 {
		if b := string([]byte{byte(c)}); c != '\n' && c != ']' && c != '^' {
			checkBracket(t, b+"]", of(b), 2, api.OK)
			checkBracket(t, "^"+b+"]", of(b+"\n").others(), 3, api.OK)
			checkBracket(t, "^x"+b+"]", of("x"+b+"\n").others(), 4, api.OK)
		}
	}
}

func TestEveryRange(t *testing.T) {
	for low := range 256 {
		for high := range 256 {
			text := string([]byte{byte(low), '-', byte(high), ']'})
			checkTold(t, text)
			checkTold(t, "x"+text)
			if low == '^' || low == '\n' || high == '\n' || high == ']' {
				continue
			}
			if low > high {
				checkError(t, text)
				continue
			}
			checkBracket(t, text, of(run(low, high)), 4, api.OK)
			checkBracket(t, "^"+text, of(run(low, high)+"\n").others(), 5, api.OK)
		}
	}
}

// The line feed is in a set by a range or a name around it, but never in a complement.
func TestLineFeed(t *testing.T) {
	for low := range 256 {
		for _, high := range []int{low, 9, 10, 11, 13, 32, 127, 255} {
			text := string([]byte{byte(low), '-', byte(high), ']'})
			if s, _, e := Bracket(text); e == api.OK && low != '^' && high != ']' && Has(s, '\n') != (low < 10 && high > 10) {
				t.Errorf("%q has the line feed: %v", text, Has(s, '\n'))
			}
			if s, _, e := Bracket("^" + text); e == api.OK && Has(s, '\n') {
				t.Errorf("%q has the line feed", "^"+text)
			}
		}
	}
	for _, n := range names() {
		s, _, _ := Bracket("[:" + n.name + ":]]")
		if Has(s, '\n') != (n.name == "space" || n.name == "cntrl") {
			t.Errorf("%s has the line feed: %v", n.name, Has(s, '\n'))
		}
		if s, _, _ := Bracket("^[:" + n.name + ":]]"); Has(s, '\n') || s == (api.Set{}) {
			t.Errorf("what isn't %s has the line feed", n.name)
		}
	}
}

func TestShortTexts(t *testing.T) {
	for _, c := range []struct {
		alphabet string
		n        int
	}{
		{"a-]^[", 7}, {"ac-]", 8}, {"[]-", 9}, {"]-^[:\n", 6}, {"[.=:]a-", 5}, {"\x00\xff\x80-]^", 6}, {"\t\n\v-]^", 6}, {"+,-./]", 6}, {"\\]Z-^_[", 5},
	} {
		for _, s := range texts(c.alphabet, c.n) {
			checkTold(t, s)
		}
	}
}

// joined are all texts of at most n of some parts, one behind the other.
func joined(parts []string, n int) []string {
	l := []string{""}
	for from := 0; n > 0; n-- {
		to := len(l)
		for ; from < to; from++ {
			for _, p := range parts {
				l = append(l, l[from]+p)
			}
		}
	}
	return l
}

func TestJoinedParts(t *testing.T) {
	for _, s := range joined([]string{"[:digit:]", "[:blank:]", "[:", ":]", "alpha", "-", "]", "^", "a", "[", "a-z", "[.", "\n"}, 4) {
		checkTold(t, s)
	}
	for _, s := range joined([]string{"[:xdigit:]", "-", "]", "^", "0", "["}, 6) {
		checkTold(t, s)
	}
}

// arbitrary is a text of n bytes of an alphabet, another one for each seed.
func arbitrary(seed, n int, alphabet string) string {
	b := make([]byte, n)
	x := uint64(seed)*0x9e3779b97f4a7c15 + 1
	for i := range b {
		x ^= x << 13
		x ^= x >> 7
		x ^= x << 17
		b[i] = alphabet[int(x>>33%uint64(len(alphabet)))]
	}
	return string(b)
}

func TestArbitraryTexts(t *testing.T) {
	most := strings.Repeat("abcdefgxyzABC0123456789]", 3) + "---[^:.=\x00\x7f\x80\xff"
	ended := 0
	for seed := range 60000 {
		for _, alphabet := range []string{most, most + "\n", run(0, 255), run(32, 126) + "]]]]]]]]----"} {
			s := arbitrary(seed, 2+seed%40, alphabet)
			checkTold(t, s)
			if _, n, e := Bracket(s); e == api.OK && n > 2 {
				ended++
			}
		}
	}
	if ended < 10000 {
		t.Errorf("only %d texts began with an expression", ended)
	}
}

// What stands behind an expression changes nothing, no beginning of it is one, and behind a ^ it has the other bytes.
func TestAround(t *testing.T) {
	for seed := range 20000 {
		text := arbitrary(seed, 3+seed%12, "abcxyz012]]--^[:\x00\x80\xff")
		s, n, e := Bracket(text)
		if e != api.OK {
			continue
		}
		for _, tail := range tails() {
			if x, m, e := Bracket(text[:n] + tail); x != s || m != n || e != api.OK {
				t.Fatalf("Bracket(%q): %x, %d, %v", short(text[:n]+tail), x, m, e)
			}
		}
		for k := range n {
			checkError(t, text[:k])
		}
		if text[0] != '^' {
			x, m, e := Bracket("^" + text)
			if x != Not(With(s, '\n', '\n')) || m != n+1 || e != api.OK {
				t.Fatalf("Bracket(%q): %x, %d, %v", "^"+text, x, m, e)
			}
		}
	}
}

// An expression has no greatest length.
func TestLongTexts(t *testing.T) {
	for _, c := range []struct {
		part  string
		bytes string
	}{
		{"a", "a"}, {"a-c", "abc"}, {"-", "-"}, {"[", "["}, {"[:digit:]", "0123456789"}, {"[:digit:]-", "0123456789-"}, {"\xff", "\xff"},
	} {
		long := strings.Repeat(c.part, 1<<16)
		checkError(t, long)
		checkError(t, long+"\n]")
		checkError(t, long+"[:none:]]")
		checkBracket(t, long+"]", of(c.bytes), len(long)+1, api.OK)
		checkBracket(t, "^"+long+"]x", of(c.bytes+"\n").others(), len(long)+2, api.OK)
	}
	checkError(t, "["+strings.Repeat(":", 1<<20))
	checkError(t, strings.Repeat("[:", 1<<20))
	checkBracket(t, strings.Repeat("]", 1<<20), of("]"), 2, api.OK)
}

// Arguments stay as they are: a set that is handed in is a value.
func TestArgumentsStay(t *testing.T) {
	for _, m := range samples() {
		s, other := m.set(), m.others().set()
		With(s, 0, 255)
		Not(s)
		Both(s, other)
		Count(s)
		Has(s, 7)
		if s != m.set() || other != m.others().set() {
			t.Fatalf("a set was changed: %x", s)
		}
	}
	a, _ := Named("alpha")
	a[0], a[1] = 7, 7
	if b, _ := Named("alpha"); b != of(names()[0].bytes).set() {
		t.Errorf("a named set was changed: %x", b)
	}
}

// inputs are texts for every call: expressions, names, and others.
func inputs() []string {
	l := append(strange(), tails()...)
	for _, c := range examples() {
		l = append(l, c.text, c.text+"x")
	}
	for _, n := range names() {
		l = append(l, n.name, n.bytes, "[:"+n.name+":]]")
	}
	return append(l, run(0, 255), run(11, 255), strings.Repeat("\x00", 99), strings.Repeat("[:", 99), strings.Repeat("a-", 99), strings.Repeat("-", 99))
}

// answer is what the calls of a text, and of the set that it leads to, answer.
type answer struct {
	named, bracket, with, not, both api.Set
	size, count                     int
	e                               api.Errno
	is, has                         bool
}

func ask(text string) answer {
	var a answer
	a.named, a.is = Named(text)
	a.bracket, a.size, a.e = Bracket(text)
	low, high := byte(len(text)), byte(len(text)*7)
	a.with, a.not, a.both = With(a.bracket, low, high), Not(a.bracket), Both(a.bracket, a.named)
	a.count, a.has = Count(a.with), Has(a.both, high)
	return a
}

// P1 and P2 of the document: whatever is given, no call panics, and a call answers the same whatever was asked ahead of it, and on however many sides at once.
func TestTotalAndSame(t *testing.T) {
	l := inputs()
	var first []answer
	for _, s := range l {
		first = append(first, ask(s))
	}
	for k := len(l) - 1; k >= 0; k-- {
		if ask(l[k]) != first[k] {
			t.Errorf("the same text is answered otherwise: %q", short(l[k]))
		}
	}
	done := make(chan bool)
	for side := range 8 {
		go func() {
			same := true
			for k := range l {
				i := (k*3 + side*11) % len(l)
				same = same && ask(l[i]) == first[i]
			}
			done <- same
		}()
	}
	for range 8 {
		if !<-done {
			t.Error("a call answered otherwise than before")
		}
	}
}
