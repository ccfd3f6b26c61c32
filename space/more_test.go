package space_test

import (
	"slices"
	"strings"
	"sync"
	"testing"
	"unsafe"

	"headgate/api"
	"headgate/space"
)

// numbers is a source of numbers that are the same each time.
type numbers struct{ x uint64 }

func (r *numbers) below(n int) int {
	r.x ^= r.x << 13
	r.x ^= r.x >> 7
	r.x ^= r.x << 17
	return int(r.x >> 33 % uint64(n))
}

func numbersOf(seed int) *numbers {
	return &numbers{uint64(seed)*0x9e3779b97f4a7c15 + 1}
}

// text is one of n bytes of an alphabet.
func (r *numbers) text(n int, alphabet string) string {
	b := make([]byte, n)
	for i := range b {
		b[i] = alphabet[r.below(len(alphabet))]
	}
	return string(b)
}

// alphabet is an arbitrary one: a few bytes that mean much, or all there are.
func (r *numbers) alphabet() string {
	return []string{"x", "x\n", "ab\n", "\n", "xxxxxxxx\t", "xxxxxxxx\x00", "x\\\x80", "\\n\n012$", "\x00\xff\t\\x", "abtnvfr\\\a\b\t\n\v\f\r", everyByte()}[r.below(11)]
}

// size is an arbitrary length: mostly a short one, often one about the edges of rows, or about the limit.
func (r *numbers) size() int {
	switch r.below(8) {
	case 0, 1:
		return 60 + r.below(20)
	case 2:
		return 130 + r.below(20)
	case 3:
		return r.below(400)
	case 4:
		return 1000 + r.below(50)
	}
	return r.below(12)
}

func (r *numbers) some() string {
	return r.text(r.size(), r.alphabet())
}

// shortTexts are all texts of at most some bytes of an alphabet.
func shortTexts(alphabet string, size int) []string {
	l := []string{""}
	for k := 0; k < len(l); k++ {
		for i := range len(alphabet) {
			if len(l[k]) < size {
				l = append(l, l[k]+alphabet[i:i+1])
			}
		}
	}
	return l
}

// Every short text, alone, and where rows end.
func TestShortTexts(t *testing.T) {
	for _, c := range []struct {
		alphabet string
		size     int
	}{{"a\n", 11}, {"\n\\n", 7}, {"\\n\n012", 5}, {"$\n\\", 7}, {"\x00\t x", 5}, {"\x7f\x80~ ", 5}} {
		for _, s := range shortTexts(c.alphabet, c.size) {
			checkText(t, s)
		}
		for _, s := range shortTexts(c.alphabet, 3) {
			for _, ahead := range []int{62, 63, 64, 65, 66, 67, 68, 69, 70, 71, 137, 138, 139} {
				checkText(t, xs(ahead)+s)
				checkText(t, xs(ahead)+s+xs(70))
			}
		}
	}
}

// Every pair of short texts, and of ones about the limit.
func TestShortPairs(t *testing.T) {
	l := shortTexts("a\n\\", 3)
	for _, a := range l {
		for _, b := range l {
			checkPair(t, a, b)
			for size := 1010; size < 1026; size++ {
				checkPair(t, a, xs(size)+b)
				checkPair(t, a+xs(size), b)
			}
		}
	}
}

// Every short text with all short ways to change it.
func TestShortChanges(t *testing.T) {
	for _, from := range shortTexts("abc", 4) {
		for _, to := range shortTexts("abx", 4) {
			for _, s := range []string{"abc", "cabbage\n", "aaaa", ""} {
				checkChange(t, s, from, to)
			}
		}
	}
}

// P16.2: all short texts of some alphabets, and all of two bytes, are listed in ways that differ.
func TestListsDiffer(t *testing.T) {
	texts := shortTexts(everyByte(), 2)
	for _, s := range append(shortTexts("\\\n$01na", 5), shortTexts("\x00\\0", 7)...) {
		texts = append(texts, s, xs(66)+s)
	}
	slices.Sort(texts)
	by := map[string]string{}
	for _, s := range slices.Compact(texts) {
		list := space.List(s)
		if other, is := by[list]; is {
			t.Fatalf("%q and %q are both listed as %q", s, other, list)
		}
		by[list] = s
	}
}

// P16.2: texts that differ in one byte, or by one, are listed in ways that differ.
func TestListsOfNextTextsDiffer(t *testing.T) {
	for seed := range 3000 {
		r := numbersOf(seed)
		s := "y" + r.some()
		at := r.below(len(s))
		list := space.List(s)
		other := []byte(s)
		other[at] += byte(1 + r.below(255))
		for _, near := range []string{string(other), s[:at] + s[at+1:], s + r.text(1, everyByte()), s + "$\n", s + "\\\n", list} {
			if space.List(near) == list {
				t.Fatalf("%q and %q are both listed as %q", s, near, list)
			}
		}
	}
}

func TestArbitraryTexts(t *testing.T) {
	rows, lines, tooLong, changed := 0, 0, 0, 0
	for seed := range 12000 {
		r := numbersOf(seed)
		s, other := r.some(), r.some()
		checkText(t, s)
		checkPair(t, s, other)
		from, to := r.text(r.below(20), r.alphabet()), r.text(r.below(20), r.alphabet())
		checkChange(t, s, from, to)
		if strings.Count(toldList(s), "\n") > 1 {
			rows++
		}
		if len(toldLines(s)) > 1 {
			lines++
		}
		if toldAppend(s, other).e != api.OK {
			tooLong++
		}
		if toldChange(s, from, to) != s {
			changed++
		}
	}
	if rows < 3000 || lines < 3000 || tooLong < 800 || changed < 3000 {
		t.Errorf("only %d had rows, %d had lines, %d were too long, %d were changed", rows, lines, tooLong, changed)
	}
}

// P16.3: what is appended to a text without a line feed is divided there again, also where several are joined.
func TestJoinedAndSplit(t *testing.T) {
	for seed := range 20000 {
		r := numbersOf(seed)
		var parts []string
		for range 1 + r.below(6) {
			parts = append(parts, r.text(r.below(8), "ab \\\x00\xff\r"))
		}
		s := parts[len(parts)-1]
		for k := len(parts) - 2; k >= 0; k-- {
			s, _ = space.Append(parts[k], s)
		}
		want := parts
		if parts[len(parts)-1] == "" {
			want = parts[:len(parts)-1]
		}
		if l := space.Lines(s); !slices.Equal(l, want) {
			t.Fatalf("Lines(%q): %q; want %q", s, l, want)
		}
		for k, part := range parts {
			first, rest, has := space.First(s)
			if first != part || has != (k < len(parts)-1) {
				t.Fatalf("First(%q): %q, %q, %v; want %q", s, first, rest, has, part)
			}
			s = rest
		}
	}
}

// The lines of a text, each with a line feed behind it, are the text, but for the line feed that may be missing at its end.
func TestLinesJoined(t *testing.T) {
	for seed := range 20000 {
		s := numbersOf(seed).some()
		back := ""
		for _, line := range space.Lines(s) {
			if strings.Contains(line, "\n") {
				t.Fatalf("Lines(%q): %q has a line feed", s, line)
			}
			back += line + "\n"
		}
		if back != s && back != s+"\n" || strings.HasSuffix(s, "\n") && back != s {
			t.Fatalf("Lines(%q): joined %q", s, back)
		}
	}
}

// Bytes that are changed, and changed back.
func TestChangedBack(t *testing.T) {
	for seed := range 5000 {
		r := numbersOf(seed)
		from, to := []byte(everyByte()), []byte(everyByte())
		for k := range 256 {
			i, j := r.below(256), r.below(256)
			from[k], from[i] = from[i], from[k]
			to[k], to[j] = to[j], to[k]
		}
		s := r.some()
		there := space.Change(s, string(from), string(to))
		if back := space.Change(there, string(to), string(from)); back != s {
			t.Fatalf("%q was changed to %q and back to %q", s, there, back)
		}
	}
}

// P1: texts of millions of bytes.
func TestLongTexts(t *testing.T) {
	const n = 1 << 20
	if l := space.List(xs(n)); len(l) != n+2*(n/69)+2 || unlisted(t, l) != xs(n) {
		t.Errorf("a long text is listed in %d bytes", len(l))
	}
	high := strings.Repeat("\xff", n)
	if l := space.List(high); len(l) != 4*n+2*((n-1)/17)+2 || unlisted(t, l) != high {
		t.Errorf("a long text of high bytes is listed in %d bytes", len(l))
	}
	feeds := strings.Repeat("\n", n)
	if l := space.Lines(feeds); len(l) != n {
		t.Errorf("%d line feeds are %d lines", n, len(l))
	}
	if l := space.Lines(strings.Repeat("ab\n", n) + "c"); len(l) != n+1 || l[0] != "ab" || l[n-1] != "ab" || l[n] != "c" {
		t.Errorf("%d lines are %d", n+1, len(l))
	}
	if first, rest, has := space.First(xs(n) + feeds); first != xs(n) || rest != feeds[1:] || !has {
		t.Error("a long text is divided otherwise")
	}
	if s := space.Change(xs(n)+feeds, high+"\nx", high+"x\n"); s != feeds+xs(n) {
		t.Error("a long text is changed otherwise")
	}
}

// answer is what all calls answer.
type answer struct {
	joined
	divided
	changed, list string
	lines         []string
}

func answerOf(a, b, c string) answer {
	var x answer
	x.s, x.e = space.Append(a, b)
	x.first, x.rest, x.has = space.First(a)
	x.changed, x.list, x.lines = space.Change(a, b, c), space.List(a), space.Lines(a)
	return x
}

func sameAnswer(a, b answer) bool {
	return a.joined == b.joined && a.divided == b.divided && a.changed == b.changed && a.list == b.list && slices.Equal(a.lines, b.lines)
}

// question is what the calls are given.
type question struct{ a, b, c string }

func questions() []question {
	var l []question
	for seed := range 5000 {
		r := numbersOf(seed)
		l = append(l, question{r.some(), r.some(), r.some()})
	}
	return l
}

// P1 and P2: the same question has the same answer, whatever was asked ahead of it, and beside it.
func TestTotalAndSame(t *testing.T) {
	l := questions()
	var first []answer
	for _, q := range l {
		first = append(first, answerOf(q.a, q.b, q.c))
	}
	for k := len(l) - 1; k >= 0; k-- {
		// What an answer holds is the caller's: writing into it changes no other one.
		if lines := answerOf(l[k].a, l[k].b, l[k].c).lines; len(lines) > 0 {
			lines[0] = "other"
		}
		if !sameAnswer(answerOf(l[k].a, l[k].b, l[k].c), first[k]) {
			t.Fatalf("the same texts are answered otherwise: %q", l[k])
		}
	}
	var sides sync.WaitGroup
	for side := range 8 {
		sides.Go(func() {
			for k := range l {
				at := (k*3 + side*11) % len(l)
				if q := l[at]; !sameAnswer(answerOf(q.a, q.b, q.c), first[at]) {
					t.Errorf("the same texts are answered otherwise: %q", q)
				}
			}
		})
	}
	sides.Wait()
}

// shares tells whether two texts have bytes of the same memory.
func shares(a, b string) bool {
	if a == "" || b == "" {
		return false
	}
	x, y := uintptr(unsafe.Pointer(unsafe.StringData(a))), uintptr(unsafe.Pointer(unsafe.StringData(b)))
	return x < y+uintptr(len(b)) && y < x+uintptr(len(a))
}

// Answers are new memory: none shares any with a text that was given, or with another one.
func TestNewMemory(t *testing.T) {
	for seed := range 2000 {
		r := numbersOf(seed)
		// Shorter ones may be shared by all texts of the program.
		q := question{r.text(2+r.below(90), "abc\n"), r.text(2+r.below(90), "ab"), r.text(2+r.below(90), "cd")}
		x := answerOf(q.a, q.b, q.c)
		l := []string{q.a, q.b, q.c, x.s, x.first, x.rest, x.changed, x.list}
		l = append(l, x.lines...)
		l = slices.DeleteFunc(l, func(s string) bool { return len(s) < 2 })
		for i := range l {
			for j := range i {
				if shares(l[i], l[j]) {
					t.Fatalf("%q shares memory with %q", l[i], l[j])
				}
			}
		}
	}
}
