package rope

import (
	"bytes"
	"math"
	"slices"
	"strings"
	"testing"
	"unsafe"

	"headgate/api"
)

// far are numbers far from every index and line.
func far() []int {
	return []int{math.MinInt, math.MinInt + 1, -1 << 32, -1 << 31, -1 << 16, 1<<16 + 1, 1 << 31, 1 << 32, math.MaxInt - 1, math.MaxInt}
}

// mixed is a text of n bytes with every byte in it, if it is long enough, and lines of many lengths.
func mixed(n int) string {
	b := make([]byte, n)
	for i := range b {
		b[i] = byte(i*i*7 + i*13 + i>>8)
		if i%97 == 5 || i%31 == 7 {
			b[i] = '\n'
		}
	}
	return string(b)
}

// samples are texts of every kind, the empty one first.
func samples() []string {
	l := []string{"", "a", "\n", "ab", "a\n", "\na", "\n\n", "ab\ncd", "ab\ncd\n", "\n\nab\n\n", "\x00", "\r\n", "\xff\xfe\n\x80", "ä\n€"}
	for _, n := range []int{31, 255, 256, 257, 511, 512, 513, 1000, 4097} {
		l = append(l, mixed(n), strings.Repeat("x", n), strings.Repeat("\n", n), strings.Repeat("x", n-1)+"\n", "\n"+strings.Repeat("x", n-1))
	}
	return l
}

// line is what Line returns.
type line struct {
	text string
	feed bool
}

// told are the lines of a text, as the chapter's words tell them: it is cut after each line feed.
func told(s string) []line {
	var l []line
	from := 0
	for i := range len(s) {
		if s[i] == 10 {
			l, from = append(l, line{s[from:i], true}), i+1
		}
	}
	if from < len(s) {
		l = append(l, line{s[from:], false})
	}
	return l
}

func of(t testing.TB, s string) *Rope {
	t.Helper()
	r, e := Of(s)
	if r == nil || e != api.OK {
		t.Fatalf("Of(%d bytes): %v, %v", len(s), r, e)
	}
	return r
}

func join(t testing.TB, a, b *Rope) *Rope {
	t.Helper()
	r, e := Join(a, b)
	if r == nil || e != api.OK {
		t.Fatalf("Join of %d and %d bytes: %v, %v", a.Len(), b.Len(), r, e)
	}
	return r
}

func cut(t testing.TB, r *Rope, from, to int) *Rope {
	t.Helper()
	c, e := r.Cut(from, to)
	if c == nil || e != api.OK {
		t.Fatalf("Cut(%d, %d) of %d bytes: %v, %v", from, to, r.Len(), c, e)
	}
	return c
}

// brief is a text, or the beginning of a long one.
func brief(s string) string {
	if len(s) > 80 {
		return s[:80] + ".."
	}
	return s
}

// checkText holds a rope against the text that it is to have.
func checkText(t testing.TB, r *Rope, want string) {
	t.Helper()
	if r.Len() != len(want) || r.Text() != want {
		t.Fatalf("%d bytes, %q; want %d, %q", r.Len(), brief(r.Text()), len(want), brief(want))
	}
}

// check holds a rope against a text: its length, bytes, lines, and what there is none of.
func check(t testing.TB, r *Rope, want string) {
	t.Helper()
	checkText(t, r, want)
	for i := range len(want) {
		if c, e := r.Index(i); c != want[i] || e != api.OK {
			t.Fatalf("Index(%d) of %q: %d, %v; want %d", i, brief(want), c, e, want[i])
		}
	}
	for _, n := range append(far(), -2, -1, len(want), len(want)+1) {
		if c, e := r.Index(n); c != 0 || e != api.ErrRope {
			t.Fatalf("Index(%d) of %d bytes: %d, %v", n, len(want), c, e)
		}
	}
	checkLines(t, r, want)
}

func checkLines(t testing.TB, r *Rope, want string) {
	t.Helper()
	lines := told(want)
	if r.Lines() != len(lines) {
		t.Fatalf("%d lines of %q; want %d", r.Lines(), brief(want), len(lines))
	}
	var all strings.Builder
	for n, l := range lines {
		s, feed, e := r.Line(n)
		if s != l.text || feed != l.feed || e != api.OK {
			t.Fatalf("Line(%d) of %q: %q, %v, %v; want %q, %v", n, brief(want), brief(s), feed, e, brief(l.text), l.feed)
		}
		all.WriteString(s)
		if feed {
			all.WriteByte(10)
		}
	}
	if all.String() != want {
		t.Fatalf("the lines of %q make %q", brief(want), brief(all.String()))
	}
	for _, n := range append(far(), -2, -1, len(lines), len(lines)+1) {
		if s, feed, e := r.Line(n); s != "" || feed || e != api.ErrRope {
			t.Fatalf("Line(%d) of %d: %q, %v, %v", n, len(lines), s, feed, e)
		}
	}
}

// checkSound holds a rope against what its comments say of it.
func checkSound(t testing.TB, r *Rope) {
	t.Helper()
	if r == nil || r.depth == 0 {
		return
	}
	checkSound(t, r.left)
	checkSound(t, r.right)
	a, b := r.left, r.right
	if a.size == 0 || b.size == 0 || r.size != a.size+b.size || r.feeds != a.feeds+b.feeds {
		t.Fatalf("%d bytes, %d line feeds; joins %d, %d and %d, %d", r.size, r.feeds, a.size, a.feeds, b.size, b.feeds)
	}
	if r.depth != 1+max(a.depth, b.depth) || a.depth-b.depth > 1 || b.depth-a.depth > 1 {
		t.Fatalf("depth %d; joins %d and %d", r.depth, a.depth, b.depth)
	}
}

func TestOf(t *testing.T) {
	for _, s := range samples() {
		r := of(t, s)
		check(t, r, s)
		checkSound(t, r)
		check(t, of(t, s), s)
		check(t, r, s)
	}
}

func TestOfTheGreatestLength(t *testing.T) {
	for _, c := range []string{"x", "\n", "ab\n\n", "\x00\n", "12345678901234567890123456789012\n3456789012345678901234567890123"} {
		s := strings.Repeat(c, 1<<16/len(c))
		check(t, of(t, s), s)
		check(t, of(t, s[1:]), s[1:])
		for _, s := range []string{s + "x", "\n" + s, s + c, s + s, strings.Repeat(s, 100)} {
			if r, e := Of(s); r != nil || e != api.ErrLarge {
				t.Errorf("Of(%d bytes): %v, %v", len(s), r, e)
			}
		}
	}
	s := mixed(1 << 16)
	check(t, of(t, s), s)
	if r, e := Of(mixed(1<<16 + 1)); r != nil || e != api.ErrLarge {
		t.Errorf("Of(65537 bytes): %v, %v", r, e)
	}
}

func TestNoRope(t *testing.T) {
	var none *Rope
	for _, r := range []*Rope{none, new(Rope), of(t, ""), join(t, nil, nil), join(t, of(t, ""), nil), join(t, nil, of(t, "")), cut(t, none, 0, 0), cut(t, of(t, "ab\n"), 1, 1)} {
		check(t, r, "")
		check(t, cut(t, r, 0, 0), "")
		for _, n := range append(far(), -1, 1) {
			for _, b := range [][2]int{{0, n}, {n, 0}, {n, n}, {n, n - 1}, {n, n + 1}} {
				if c, e := r.Cut(b[0], b[1]); c != nil || e != api.ErrRope {
					t.Errorf("Cut(%d, %d) of nothing: %v, %v", b[0], b[1], c, e)
				}
			}
		}
		for _, s := range samples() {
			check(t, join(t, r, of(t, s)), s)
			check(t, join(t, of(t, s), r), s)
		}
		check(t, join(t, r, r), "")
		check(t, r, "")
	}
	if none.Len() != 0 || none.Lines() != 0 || none.Text() != "" {
		t.Errorf("no rope: %d bytes, %d lines, %q", none.Len(), none.Lines(), none.Text())
	}
}

func TestJoin(t *testing.T) {
	for _, x := range samples() {
		for _, y := range samples() {
			a, b := of(t, x), of(t, y)
			r := join(t, a, b)
			check(t, r, x+y)
			checkSound(t, r)
			checkText(t, a, x)
			checkText(t, b, y)
		}
	}
}

func TestJoinUpToTheGreatestLength(t *testing.T) {
	whole := mixed(1 << 16)
	for _, n := range []int{0, 1, 2, 255, 256, 257, 32767, 32768, 32769, 65535, 65536} {
		a, b := of(t, whole[:n]), of(t, whole[n:])
		check(t, join(t, a, b), whole)
		for _, c := range [][2]*Rope{{join(t, a, b), of(t, "\n")}, {of(t, "x"), join(t, a, b)}} {
			if r, e := Join(c[0], c[1]); r != nil || e != api.ErrLarge {
				t.Errorf("Join of %d and %d bytes: %v, %v", c[0].Len(), c[1].Len(), r, e)
			}
		}
		checkText(t, a, whole[:n])
		checkText(t, b, whole[n:])
	}
	for _, c := range [][2]int{{1, 65536}, {2, 65535}, {32768, 32769}, {32769, 32768}, {65535, 2}, {65536, 1}, {65536, 65536}} {
		a, b := of(t, whole[:c[0]]), of(t, whole[:c[1]])
		if r, e := Join(a, b); r != nil || e != api.ErrLarge {
			t.Errorf("Join of %d and %d bytes: %v, %v", c[0], c[1], r, e)
		}
		checkText(t, a, whole[:c[0]])
		checkText(t, b, whole[:c[1]])
	}
}

func TestJoinWithItself(t *testing.T) {
	r, s := of(t, "\n"), "\n"
	for len(s) < 1<<16 {
		r, s = join(t, r, r), s+s
		checkSound(t, r)
	}
	check(t, r, s)
	if r, e := Join(r, r); r != nil || e != api.ErrLarge {
		t.Errorf("Join of 65536 and 65536 bytes: %v, %v", r, e)
	}
}

func TestCut(t *testing.T) {
	for _, s := range []string{"a", "\n", "ab\ncd", "\n\nab\n\n", "ab\xff\x00\ncdefg\nhi\n", mixed(40)} {
		for middle := range len(s) + 1 {
			r := join(t, of(t, s[:middle]), of(t, s[middle:]))
			for from := range len(s) + 1 {
				for to := from; to <= len(s); to++ {
					check(t, cut(t, r, from, to), s[from:to])
				}
			}
			check(t, r, s)
		}
	}
}

func TestCutOfManyParts(t *testing.T) {
	s := mixed(5000)
	whole, pieces := of(t, s), (*Rope)(nil)
	for from := 0; from < len(s); from += 13 {
		pieces = join(t, pieces, of(t, s[from:min(from+13, len(s))]))
	}
	for _, r := range []*Rope{whole, pieces} {
		for from := 0; from <= len(s); from += 1 + from%89 {
			for to := from; to <= len(s); to += 1 + to%97 {
				c := cut(t, r, from, to)
				checkText(t, c, s[from:to])
				checkLines(t, c, s[from:to])
				checkSound(t, c)
			}
		}
		check(t, r, s)
	}
}

func TestCutOfTheGreatestLength(t *testing.T) {
	s := mixed(1 << 16)
	r := of(t, s)
	for _, c := range [][2]int{{0, 1 << 16}, {0, 0}, {1 << 16, 1 << 16}, {1, 1 << 16}, {0, 1<<16 - 1}, {1, 1<<16 - 1}, {255, 257}, {256, 512}, {32767, 32769}, {65535, 65536}} {
		check(t, cut(t, r, c[0], c[1]), s[c[0]:c[1]])
	}
	check(t, r, s)
}

func TestCutOfNoBytes(t *testing.T) {
	for _, s := range samples() {
		r := of(t, s)
		n := len(s)
		cases := [][2]int{{-1, 0}, {-1, -1}, {-2, -1}, {-1, n}, {-1, n + 1}, {0, n + 1}, {n, n + 1}, {n + 1, n + 1}, {n + 1, n}, {n + 2, n + 1}, {n, n - 1}, {1, 0}, {0, -1}}
		for i := range n {
			cases = append(cases, [2]int{i + 1, i}, [2]int{n, i}, [2]int{i, -1}, [2]int{i, n + 1})
		}
		for _, x := range far() {
			cases = append(cases, [2]int{0, x}, [2]int{x, n}, [2]int{n, x}, [2]int{x, 0}, [2]int{x, x})
			for _, y := range far() {
				cases = append(cases, [2]int{x, y})
			}
		}
		for _, c := range cases {
			if x, e := r.Cut(c[0], c[1]); x != nil || e != api.ErrRope {
				t.Fatalf("Cut(%d, %d) of %d bytes: %v, %v", c[0], c[1], n, x, e)
			}
		}
		for i := range n + 1 {
			check(t, cut(t, r, i, i), "")
		}
		check(t, cut(t, r, 0, n), s)
		check(t, r, s)
	}
}

func TestLine(t *testing.T) {
	cases := []struct {
		text  string
		lines []line
	}{
		{"", nil},
		{"a", []line{{"a", false}}},
		{"\n", []line{{"", true}}},
		{"a\n", []line{{"a", true}}},
		{"\na", []line{{"", true}, {"a", false}}},
		{"\n\n\n", []line{{"", true}, {"", true}, {"", true}}},
		{"ab\ncd", []line{{"ab", true}, {"cd", false}}},
		{"ab\n\ncd\n", []line{{"ab", true}, {"", true}, {"cd", true}}},
		{"a\r\n\vb\f\n\x85", []line{{"a\r", true}, {"\vb\f", true}, {"\x85", false}}},
	}
	for _, c := range cases {
		r := of(t, c.text)
		if r.Lines() != len(c.lines) {
			t.Errorf("%q: %d lines", c.text, r.Lines())
		}
		for n, want := range c.lines {
			if s, feed, e := r.Line(n); s != want.text || feed != want.feed || e != api.OK {
				t.Errorf("Line(%d) of %q: %q, %v, %v", n, c.text, s, feed, e)
			}
		}
		for _, n := range append(far(), -1, len(c.lines)) {
			if s, feed, e := r.Line(n); s != "" || feed || e != api.ErrRope {
				t.Errorf("Line(%d) of %q: %q, %v, %v", n, c.text, s, feed, e)
			}
		}
	}
}

// TestLinesAcrossParts divides each text of few bytes in every way, and joins its pieces from either end.
func TestLinesAcrossParts(t *testing.T) {
	const n = 7
	for bits := range 1 << n {
		b := bytes.Repeat([]byte{'a'}, n)
		for i := range n {
			if bits>>i&1 == 1 {
				b[i] = '\n'
			}
		}
		for divisions := range 1 << (n - 1) {
			var pieces []string
			from := 0
			for i := 1; i <= n; i++ {
				if i == n || divisions>>(i-1)&1 == 1 {
					pieces, from = append(pieces, string(b[from:i])), i
				}
			}
			var fore, back *Rope
			for i := range pieces {
				fore = join(t, fore, of(t, pieces[i]))
				back = join(t, of(t, pieces[len(pieces)-1-i]), back)
			}
			check(t, fore, string(b))
			check(t, back, string(b))
			checkSound(t, fore)
			checkSound(t, back)
		}
	}
}

// next is a number of a sequence that looks mixed.
func next(n uint32) uint32 {
	return n*1664525 + 1013904223
}

// TestScripts joins and cuts by scripts, behind which every rope that there was still has its text, its lines and its bytes.
func TestScripts(t *testing.T) {
	for script := range uint32(60) {
		n := script * 7919
		below := func(m int) int {
			n = next(n)
			return int(n>>8) % m
		}
		ropes, texts := []*Rope{nil}, []string{""}
		add := func(r *Rope, s string) {
			check(t, r, s)
			ropes, texts = append(ropes, r), append(texts, s)
		}
		for range 60 {
			i, j := below(len(ropes)), below(len(ropes))
			switch below(5) {
			case 0:
				s := mixed(300)[below(300):]
				add(of(t, s), s)
			case 1, 2, 3:
				if len(texts[i])+len(texts[j]) < 3000 {
					add(join(t, ropes[i], ropes[j]), texts[i]+texts[j])
				}
			case 4:
				from := below(len(texts[i]) + 1)
				to := from + below(len(texts[i])-from+1)
				add(cut(t, ropes[i], from, to), texts[i][from:to])
			}
		}
		for i := range ropes {
			check(t, ropes[i], texts[i])
			checkSound(t, ropes[i])
		}
	}
}

// TestShortScripts goes through every script of three joins and cuts on a few ropes.
func TestShortScripts(t *testing.T) {
	type both struct {
		rope *Rope
		text string
	}
	var steps func(l []both, left int)
	steps = func(l []both, left int) {
		if left == 0 {
			for _, b := range l {
				check(t, b.rope, b.text)
			}
			return
		}
		l = slices.Clip(l)
		for _, a := range l {
			for _, b := range l {
				steps(append(l, both{join(t, a.rope, b.rope), a.text + b.text}), left-1)
			}
			n := len(a.text)
			for _, c := range [][2]int{{0, n / 2}, {n / 2, n}, {n / 3, n - n/3}} {
				steps(append(l, both{cut(t, a.rope, c[0], c[1]), a.text[c[0]:c[1]]}), left-1)
			}
		}
	}
	steps([]both{{nil, ""}, {of(t, "a\nbc"), "a\nbc"}, {of(t, "\n"), "\n"}}, 3)
}

// TestBytesOneByOne joins as many parts as there can be, at either end and in the middle.
func TestBytesOneByOne(t *testing.T) {
	s := mixed(1 << 16)
	single := make([]*Rope, 256)
	for c := range single {
		single[c] = of(t, string([]byte{byte(c)}))
	}
	var fore, back, inner *Rope
	for i := range len(s) {
		fore = join(t, fore, single[s[i]])
		back = join(t, single[s[len(s)-1-i]], back)
		at := (i + 1) / 2
		inner = join(t, join(t, cut(t, inner, 0, at), single[s[i]]), cut(t, inner, at, i))
	}
	mid := make([]byte, len(s)) // each byte went behind those of even indexes, and before those of odd ones
	for i := range len(s) / 2 {
		mid[i], mid[len(s)-1-i] = s[2*i], s[2*i+1]
	}
	for _, c := range []struct {
		rope *Rope
		text string
	}{{fore, s}, {back, s}, {inner, string(mid)}} {
		check(t, c.rope, c.text)
		checkSound(t, c.rope)
		if c.rope.depth > 24 {
			t.Errorf("depth %d", c.rope.depth)
		}
		check(t, cut(t, c.rope, 777, 7777), c.text[777:7777])
		if r, e := Join(c.rope, single[0]); r != nil || e != api.ErrLarge {
			t.Errorf("Join of 65536 and 1 bytes: %v, %v", r, e)
		}
	}
}

// at tells where a string lies.
func at(s string) (from, to uintptr) {
	from = uintptr(unsafe.Pointer(unsafe.StringData(s)))
	return from, from + uintptr(len(s))
}

// TestShared tells that neither Join nor Cut copies a text.
func TestShared(t *testing.T) {
	s := mixed(3000)
	a, b := of(t, s[:1111]), of(t, s[1111:])
	var from []string
	for _, r := range []*Rope{a, b} {
		from = slices.AppendSeq(from, r.parts(0, r.Len()))
	}
	r := join(t, a, b)
	for _, c := range []*Rope{r, cut(t, r, 3, 2990), cut(t, join(t, r, r), 2000, 5000)} {
		for part := range c.parts(0, c.Len()) {
			if !slices.ContainsFunc(from, func(whole string) bool {
				x, y := at(part)
				first, last := at(whole)
				return first <= x && y <= last
			}) {
				t.Errorf("a part of %d bytes was copied", len(part))
			}
		}
	}
}

// TestNotKept tells that a rope keeps none of its argument's memory, and hands out none of its own.
func TestNotKept(t *testing.T) {
	for _, s := range []string{"a", "ab\ncd\n", mixed(256), mixed(1000), mixed(1 << 16)} {
		r := of(t, s)
		first, last := at(s)
		for part := range r.parts(0, r.Len()) {
			if x, _ := at(part); first <= x && x < last {
				t.Fatalf("a text of %d bytes was kept", len(s))
			}
			text, _, _ := r.Line(0)
			for _, given := range []string{r.Text(), text} {
				x, y := at(part)
				if from, to := at(given); from < y && x < to {
					t.Fatalf("a part of %d bytes was handed out", len(part))
				}
			}
		}
	}
}

// TestPartsEndEarly tells that the iterator over parts yields no more than is wanted.
func TestPartsEndEarly(t *testing.T) {
	s := mixed(5000)
	r := join(t, of(t, s), of(t, s))
	for wanted := 1; wanted < 40; wanted++ {
		var b strings.Builder
		n := 0
		for part := range r.parts(100, 10000) {
			b.WriteString(part)
			if n++; n == wanted {
				break
			}
		}
		if !strings.HasPrefix((s + s)[100:], b.String()) || b.Len() == 0 {
			t.Errorf("%d parts: %q", wanted, brief(b.String()))
		}
	}
}

// TestAgain tells that calls in any order change nothing that a later one tells.
func TestAgain(t *testing.T) {
	for _, s := range samples() {
		r := join(t, of(t, s), of(t, "b\nc"))
		want := s + "b\nc"
		for range 2 {
			r.Cut(0, len(want))
			r.Cut(1, 2)
			r.Cut(2, 1)
			r.Cut(-1, len(want)+1)
			Join(r, r)
			Join(r, nil)
			Join(r, of(t, strings.Repeat("x", 1<<16)))
			r.Line(-1)
			r.Line(0)
			r.Index(len(want))
			check(t, r, want)
		}
	}
}
