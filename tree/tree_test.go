package tree

import (
	"fmt"
	"maps"
	"math"
	"slices"
	"strings"
	"testing"
	"unsafe"

	"headgate/api"
	"headgate/rope"
)

// numbers are versions of every size.
func numbers() []int {
	return []int{math.MinInt, math.MinInt + 1, -1 << 40, -1 << 32, -1 << 31, -256, -1, 0, 1, 2, 255, 256, 1<<31 - 1, 1 << 31, 1 << 32, 1<<40 - 1, 1 << 40, 1<<40 + 1, math.MaxInt - 1, math.MaxInt}
}

// strange are texts that are no paths, the empty one first.
func strange() []string {
	return []string{"", " ", "a b", " a", "a ", "\x00", "a\x00", "\n", "a\n", "\t", "\x1f", "\x7f", "a\x7f", "\x80", "\xff", "ä", "a/ä", "a\xffb", strings.Repeat("a", 33), strings.Repeat("a", 34), strings.Repeat("!", 64), strings.Repeat("~", 1000), strings.Repeat("a", 1<<16)}
}

// name returns the path of a number, of one length for all: they are ordered as the numbers are.
func name(n int) string {
	return fmt.Sprintf("f%04d", n)
}

// kept is what a tree is to have by a path.
type kept struct {
	version int
	text    string
}

// model is what a tree is to have: the chapter's words, without a tree.
type model map[string]kept

// with and without return another model; m stays as it is.
func (m model) with(path string, version int, text string) model {
	c := maps.Clone(m)
	if c == nil {
		c = model{}
	}
	c[path] = kept{version, text}
	return c
}

func (m model) without(path string) model {
	c := maps.Clone(m)
	delete(c, path)
	return c
}

// paths are those of a model in increasing order.
func (m model) paths() []string {
	return slices.Sorted(maps.Keys(m))
}

func of(t testing.TB, s string) *rope.Rope {
	t.Helper()
	r, e := rope.Of(s)
	if e != api.OK {
		t.Fatalf("a rope of %d bytes: %v", len(s), e)
	}
	return r
}

func set(t testing.TB, tr *Tree, path string, version int, r *rope.Rope) *Tree {
	t.Helper()
	x, e := tr.Set(path, version, r)
	if x == nil || e != api.OK {
		t.Fatalf("Set(%q, %d): %v, %v", path, version, x, e)
	}
	return x
}

func drop(t testing.TB, tr *Tree, path string) *Tree {
	t.Helper()
	x, e := tr.Drop(path)
	if x == nil || e != api.OK {
		t.Fatalf("Drop(%q): %v, %v", path, x, e)
	}
	return x
}

// brief is a text, or the beginning of a long one.
func brief(s string) string {
	if len(s) > 40 {
		return s[:40] + ".."
	}
	return s
}

// checkFile holds what a tree tells of one path against a model.
func checkFile(t testing.TB, tr *Tree, m model, path string) {
	t.Helper()
	want, there := m[path]
	r, version, ok := tr.Get(path)
	if ok != there || version != want.version || r.Text() != want.text || !ok && r != nil {
		t.Fatalf("Get(%q): %q, %d, %v; want %q, %d, %v", brief(path), brief(r.Text()), version, ok, brief(want.text), want.version, there)
	}
	if n := tr.Version(path); n != want.version {
		t.Fatalf("Version(%q): %d; want %d", brief(path), n, want.version)
	}
}

// checkScan holds a scan against the paths of a model.
func checkScan(t testing.TB, tr *Tree, sorted []string, from, to string) {
	t.Helper()
	var want []string
	for _, p := range sorted {
		if p >= from && p < to {
			want = append(want, p)
		}
	}
	if got := tr.Scan(from, to); !slices.Equal(got, want) {
		t.Fatalf("Scan(%q, %q) of %q: %q; want %q", brief(from), brief(to), sorted, got, want)
	}
}

// checkDeep holds the depth of a tree against its bound, and against that of its own shape.
func checkDeep(t testing.TB, tr *Tree) {
	t.Helper()
	n, deep := tr.Len(), tr.Deep()
	if deep < 0 || deep > 11 || (deep == 0) != (n == 0) || 1<<deep > 2*(n+1) {
		t.Fatalf("%d files are %d deep", n, deep)
	}
	if d := checkNode(t, tr.top()); d != deep {
		t.Fatalf("Deep: %d; the nodes are %d deep", deep, d)
	}
}

// checkNode holds a node and those below against what their comments say, and returns how deep they are. It isn't marked as a helper, which would take longer than the rest.
func checkNode(t testing.TB, n *node) int {
	if n == nil {
		return 0
	}
	if len(n.files) < least || len(n.files) > most || len(n.kids) > 0 && len(n.kids) != len(n.files)+1 {
		t.Fatalf("a node has %d files and %d kids", len(n.files), len(n.kids))
	}
	below := checkNode(t, n.kid(0))
	for _, k := range n.kids {
		if k == nil || checkNode(t, k) != below {
			t.Fatalf("a node has kids of several depths")
		}
	}
	return below + 1
}

// check holds all that a tree tells against a model, but scans that are neither over all nor from or to a file.
func check(t testing.TB, tr *Tree, m model) {
	t.Helper()
	sorted := m.paths()
	if tr.Len() != len(sorted) {
		t.Fatalf("%d files; want %d", tr.Len(), len(sorted))
	}
	l := tr.Files()
	if len(l) != len(sorted) {
		t.Fatalf("Files: %d; want %d", len(l), len(sorted))
	}
	for i, p := range sorted {
		if want := (api.File{Path: p, Version: m[p].version, Content: m[p].text}); l[i] != want {
			t.Fatalf("file %d: %q, %d, %q; want %q, %d, %q", i, l[i].Path, l[i].Version, brief(l[i].Content), p, want.Version, brief(want.Content))
		}
		checkFile(t, tr, m, p)
		if _, there := m[p+"!"]; !there {
			checkFile(t, tr, m, p+"!")
		}
		if _, there := m[p[:len(p)-1]]; !there {
			checkFile(t, tr, m, p[:len(p)-1])
		}
	}
	for _, p := range strange() {
		checkFile(t, tr, m, p)
	}
	checkScan(t, tr, sorted, "", "\x7f")
	checkScan(t, tr, sorted, "", "")
	if len(sorted) > 0 {
		first, last := sorted[0], sorted[len(sorted)-1]
		checkScan(t, tr, sorted, first, last)
		checkScan(t, tr, sorted, sorted[len(sorted)/3], sorted[len(sorted)/2])
		checkScan(t, tr, sorted, last, first)
	}
	checkDeep(t, tr)
}

// checkScans holds every scan between some texts against a model.
func checkScans(t testing.TB, tr *Tree, m model, texts []string) {
	t.Helper()
	sorted := m.paths()
	for _, from := range texts {
		for _, to := range texts {
			checkScan(t, tr, sorted, from, to)
		}
	}
}

// built returns a tree of files, set in the order of their paths as given, and what it is to have.
func built(t testing.TB, paths ...string) (*Tree, model) {
	t.Helper()
	var tr *Tree
	m := model{}
	for i, p := range paths {
		tr = set(t, tr, p, i+1, of(t, "text of "+p))
		m[p] = kept{i + 1, "text of " + p}
	}
	return tr, m
}

func TestRight(t *testing.T) {
	for c := range 256 {
		want := c >= 33 && c <= 126
		b := string([]byte{byte(c)})
		for _, p := range []string{b, b + b, "a" + b, b + "a", "a" + b + "a", strings.Repeat("a", 31) + b, b + strings.Repeat("a", 31), strings.Repeat(b, 32)} {
			if Right(p) != want {
				t.Errorf("Right(%q): %v", p, !want)
			}
		}
		for _, n := range []int{0, 33, 34, 64, 1000} {
			if p := strings.Repeat(b, n); Right(p) {
				t.Errorf("Right of %d bytes %d", n, c)
			}
		}
	}
	for n := range 100 {
		p := strings.Repeat("x", n)
		if Right(p) != (n >= 1 && n <= 32) {
			t.Errorf("Right of %d bytes: %v", n, Right(p))
		}
		for i := range n {
			for _, c := range []byte{0, 9, 10, 32, 127, 128, 255} {
				if q := p[:i] + string([]byte{c}) + p[i+1:]; Right(q) {
					t.Errorf("Right(%q)", q)
				}
			}
			for _, c := range []byte{33, 126} {
				if q := p[:i] + string([]byte{c}) + p[i+1:]; Right(q) != (n <= 32) {
					t.Errorf("Right(%q): %v", q, Right(q))
				}
			}
		}
	}
	for _, p := range strange() {
		if Right(p) {
			t.Errorf("Right(%q)", brief(p))
		}
	}
	for _, p := range []string{"a", "a/b", "/", ".", "..", "-", "!", "~", "a~b!", "\\", "'\"`$"} {
		if !Right(p) {
			t.Errorf("Right(%q): false", p)
		}
	}
}

// none are trees without files, that there is none and that all were dropped among them.
func none(t testing.TB) []*Tree {
	t.Helper()
	one, _ := built(t, "a")
	many, m := built(t, "a", "c", "b", "e", "d", "h", "g")
	for p := range m {
		many = drop(t, many, p)
	}
	return []*Tree{nil, new(Tree), drop(t, one, "a"), many}
}

func TestNoFiles(t *testing.T) {
	for _, tr := range none(t) {
		check(t, tr, nil)
		texts := append(strange(), "a", "!", "~", "\x7f")
		checkScans(t, tr, nil, texts)
		for _, p := range texts {
			if x, e := tr.Drop(p); x != nil || e != api.ErrNone {
				t.Errorf("Drop(%q) of no files: %v, %v", brief(p), x, e)
			}
			checkFile(t, tr, nil, p)
		}
		for _, p := range strange() {
			if x, e := tr.Set(p, 1, of(t, "x")); x != nil || e != api.ErrPath {
				t.Errorf("Set(%q): %v, %v", brief(p), x, e)
			}
		}
		if tr.Len() != 0 || tr.Deep() != 0 || len(tr.Files()) != 0 || len(tr.Scan("", "\xff")) != 0 {
			t.Errorf("no files: %d, %d deep", tr.Len(), tr.Deep())
		}
		check(t, set(t, tr, "a", 3, of(t, "x\n")), model{"a": {3, "x\n"}})
		check(t, set(t, tr, "a", 0, nil), model{"a": {0, ""}})
		check(t, tr, nil)
	}
}

// edges are paths of every length that may be, of every byte, and such that are beginnings of others.
func edges() []string {
	var l []string
	for c := byte(33); c <= 126; c++ {
		l = append(l, string([]byte{c}))
	}
	for n := 2; n <= 32; n++ {
		l = append(l, strings.Repeat("a", n), strings.Repeat("a", n-1)+"!", strings.Repeat("a", n-1)+"~", strings.Repeat("!", n), strings.Repeat("~", n))
	}
	return append(l, "a/b", "a/b/c", "ab/c", "a.b", "a-b", "a0b")
}

func TestPaths(t *testing.T) {
	l := edges()
	for _, p := range l {
		tr := set(t, nil, p, 7, of(t, p))
		check(t, tr, model{p: {7, p}})
		check(t, drop(t, tr, p), nil)
	}
	for range 2 {
		tr, m := built(t, l...)
		check(t, tr, m)
		checkScans(t, tr, m, append(strange(), l[90:140]...))
		for _, p := range strange() {
			if x, e := tr.Set(p, 1, nil); x != nil || e != api.ErrPath {
				t.Errorf("Set(%q): %v, %v", brief(p), x, e)
			}
			if x, e := tr.Drop(p); x != nil || e != api.ErrNone {
				t.Errorf("Drop(%q): %v, %v", brief(p), x, e)
			}
		}
		check(t, tr, m)
		slices.Reverse(l)
	}
}

// TestBeginnings has files whose paths begin as others, of which some are dropped.
func TestBeginnings(t *testing.T) {
	l := []string{"a", "aa", "aaa", "a!", "a~", "ab", "b", "!", "aab"}
	for bits := range 1 << len(l) {
		var tr *Tree
		m := model{}
		for i, p := range l {
			if bits>>i&1 == 1 {
				tr = set(t, tr, p, i, of(t, p))
				m[p] = kept{i, p}
			}
		}
		check(t, tr, m)
		for _, p := range l {
			checkFile(t, tr, m, p)
			if _, there := m[p]; there {
				check(t, drop(t, tr, p), m.without(p))
			} else if x, e := tr.Drop(p); x != nil || e != api.ErrNone {
				t.Errorf("Drop(%q): %v, %v", p, x, e)
			}
		}
	}
}

func TestSetAgain(t *testing.T) {
	a, m := built(t, "a", "b", "c", "d", "e", "f", "g", "h")
	for p := range m {
		for _, text := range []string{"", "x", "a\nb\n", strings.Repeat("y", 70), m[p].text} {
			for _, version := range append(numbers(), m[p].version) {
				b := set(t, a, p, version, of(t, text))
				check(t, b, m.with(p, version, text))
			}
		}
		b := set(t, a, p, 9, nil)
		check(t, b, m.with(p, 9, ""))
		if r, version, there := b.Get(p); r != nil || version != 9 || !there {
			t.Errorf("Get(%q): %v, %d, %v", p, r, version, there)
		}
		check(t, set(t, b, p, 10, of(t, "z")), m.with(p, 10, "z"))
		check(t, a, m)
	}
}

// TestSameRope tells that Get returns the rope that was set.
func TestSameRope(t *testing.T) {
	r, s := of(t, "one\ntwo"), of(t, "three")
	a := set(t, set(t, nil, "p", 1, r), "q", 2, s)
	b := set(t, set(t, a, "p", 3, s), "o", 4, r)
	for _, c := range []struct {
		tree *Tree
		path string
		rope *rope.Rope
	}{{a, "p", r}, {a, "q", s}, {b, "p", s}, {b, "q", s}, {b, "o", r}, {drop(t, b, "q"), "p", s}} {
		if got, _, there := c.tree.Get(c.path); got != c.rope || !there {
			t.Errorf("Get(%q): another rope, %q", c.path, got.Text())
		}
	}
	if x, y := r.Text(), s.Text(); x != "one\ntwo" || y != "three" {
		t.Errorf("the ropes have %q and %q", x, y)
	}
}

func TestVersions(t *testing.T) {
	var tr *Tree
	m := model{}
	for i, n := range numbers() {
		tr = set(t, tr, name(i), n, of(t, "x"))
		m[name(i)] = kept{n, "x"}
	}
	check(t, tr, m)
}

// order returns the numbers below n: rising, falling, from both ends, or mixed in one of several ways.
func order(n, kind int) []int {
	l := make([]int, n)
	for i := range l {
		switch {
		case kind == 1:
			l[i] = n - 1 - i
		case kind == 2 && i%2 == 0:
			l[i] = i / 2
		case kind == 2:
			l[i] = n - 1 - i/2
		default:
			l[i] = i
		}
	}
	if kind > 2 {
		slices.SortFunc(l, func(a, b int) int { return (a+1)*kind*37%1031 - (b+1)*kind*37%1031 }) // 1031 is a prime
	}
	return l
}

const orders = 6

func TestFull(t *testing.T) {
	r := of(t, "x")
	for kind := range orders {
		var tr *Tree
		m := model{}
		for i, n := range order(1024, kind) {
			tr = set(t, tr, name(n), i, r)
			m[name(n)] = kept{i, "x"}
			checkDeep(t, tr)
		}
		check(t, tr, m)
		for _, p := range []string{"!", "~", "f", "f0000!", "f0512!", "f1024", "f0", strings.Repeat("a", 32)} {
			if x, e := tr.Set(p, 1, r); x != nil || e != api.ErrFull {
				t.Fatalf("Set(%q) of 1024 files: %v, %v", p, x, e)
			}
			if x, e := tr.Drop(p); x != nil || e != api.ErrNone {
				t.Fatalf("Drop(%q): %v, %v", p, x, e)
			}
		}
		for _, p := range strange() {
			if x, e := tr.Set(p, 1, r); x != nil || e != api.ErrPath {
				t.Fatalf("Set(%q) of 1024 files: %v, %v", brief(p), x, e)
			}
		}
		for _, n := range []int{0, 1, 511, 512, 1022, 1023} {
			checkFile(t, set(t, tr, name(n), 5000, nil), m.with(name(n), 5000, ""), name(n))
		}
		again := set(t, tr, name(77), 5000, of(t, "y"))
		check(t, again, m.with(name(77), 5000, "y"))
		if x, e := again.Set("a", 1, r); x != nil || e != api.ErrFull {
			t.Fatalf("Set of 1024 files: %v, %v", x, e)
		}
		fewer := drop(t, tr, name(kind*200))
		check(t, fewer, m.without(name(kind*200)))
		check(t, set(t, fewer, "a", 1, r), m.without(name(kind*200)).with("a", 1, "x"))
		check(t, tr, m)
	}
}

func TestDrop(t *testing.T) {
	a, m := built(t, "d", "b", "f", "a", "c", "e", "g")
	for p := range m {
		check(t, drop(t, a, p), m.without(p))
		if x, e := drop(t, a, p).Drop(p); x != nil || e != api.ErrNone {
			t.Errorf("Drop(%q) twice: %v, %v", p, x, e)
		}
		check(t, set(t, drop(t, a, p), p, 0, nil), m.with(p, 0, ""))
	}
	for _, p := range append(strange(), "A", "aa", "dd", "h", "0", "~") {
		if x, e := a.Drop(p); x != nil || e != api.ErrNone {
			t.Errorf("Drop(%q): %v, %v", brief(p), x, e)
		}
	}
	check(t, a, m)
	b, left := a, m
	for p := range m {
		b, left = drop(t, b, p), left.without(p)
		check(t, b, left)
	}
	check(t, b, nil)
	check(t, a, m)
}

func TestScan(t *testing.T) {
	a, m := built(t, "b", "d", "bb", "f", "d/e", "h", "~", "!")
	cases := []struct {
		from, to string
		want     string
	}{
		{"b", "f", "b bb d d/e"},
		{"b", "f!", "b bb d d/e f"},
		{"", "\x7f", "! b bb d d/e f h ~"},
		{"", "\xff", "! b bb d d/e f h ~"},
		{"", "~", "! b bb d d/e f h"},
		{"", "!", ""},
		{"", "! ", "!"},
		{"", "", ""},
		{"b", "", ""},
		{"d", "d", ""},
		{"d", "d\x00", "d"},
		{"c", "c", ""},
		{"f", "b", ""},
		{"~", "!", ""},
		{"c", "e", "d d/e"},
		{"d\x00", "d/e\x00", "d/e"},
		{" ", " b", ""},
		{"a b", "b\n", "b"},
		{"~", "\x80", "~"},
		{"\x7f", "\xff", ""},
		{strings.Repeat("b", 40), strings.Repeat("d", 40), "d d/e"},
		{"ä", "ö", ""},
	}
	for _, c := range cases {
		if l := a.Scan(c.from, c.to); strings.Join(l, " ") != c.want {
			t.Errorf("Scan(%q, %q): %q; want %q", c.from, c.to, l, c.want)
		}
	}
	texts := strange()
	for _, p := range m.paths() {
		texts = append(texts, p, p+"\x00", p+"!", p+"\xff", p[:len(p)-1], string([]byte{p[0] - 1}), string([]byte{p[0] + 1}))
	}
	checkScans(t, a, m, texts)
	check(t, a, m)
}

func TestScanOfMany(t *testing.T) {
	for kind := range orders {
		var tr *Tree
		m := model{}
		for _, n := range order(500, kind) {
			tr = set(t, tr, name(2*n), n, nil)
			m[name(2*n)] = kept{n, ""}
		}
		sorted := m.paths()
		for from := -1; from <= 1001; from += 1 + max(from, 1)%83 {
			for to := -1; to <= 1001; to += 1 + max(to, 1)%71 {
				checkScan(t, tr, sorted, name(from), name(to))
			}
		}
	}
}

// TestDeep has every number of files, set and dropped in every two orders.
func TestDeep(t *testing.T) {
	for kind := range orders {
		full := make([]*Tree, 1025)
		for i, n := range order(1024, kind) {
			full[i+1] = set(t, full[i], name(n), i, nil)
			checkDeep(t, full[i+1])
		}
		for other := range orders {
			left := full[1024]
			for i, n := range order(1024, other) {
				checkDeep(t, left)
				left = drop(t, left, name(n))
				if left.Len() != 1023-i || left.Version(name(n)) != 0 {
					t.Fatalf("%d files", left.Len())
				}
			}
			check(t, left, nil)
		}
		for i, tr := range full {
			if tr.Len() != i {
				t.Fatalf("%d files; want %d", tr.Len(), i)
			}
			checkDeep(t, tr)
		}
	}
}

// TestDeepOfFew tells the bound in numbers.
func TestDeepOfFew(t *testing.T) {
	most := []int{0, 2, 2, 3, 3, 3, 3, 4, 4}
	var tr *Tree
	for n, deep := range most {
		if d := tr.Deep(); d > deep || (d < 1) != (n == 0) {
			t.Errorf("%d files are %d deep", n, d)
		}
		tr = set(t, tr, name(n), 0, nil)
	}
}

// TestScripts sets and drops on any tree that there was, behind which each tree that there was still has its files.
func TestScripts(t *testing.T) {
	for script := range uint32(40) {
		n := script * 7919
		below := func(m int) int {
			n = n*1664525 + 1013904223
			return int(n>>8) % m
		}
		names := 3 + int(script)*2
		trees, models := []*Tree{nil}, []model{nil}
		for step := range 150 {
			i := len(trees) - 1
			if below(3) == 0 {
				i = below(len(trees))
			}
			tr, m := trees[i], models[i]
			p := name(below(names))
			if _, there := m[p]; there && below(2) == 0 {
				tr, m = drop(t, tr, p), m.without(p)
			} else if !there && below(5) == 0 {
				if x, e := tr.Drop(p); x != nil || e != api.ErrNone {
					t.Fatalf("Drop(%q): %v, %v", p, x, e)
				}
			} else {
				text := strings.Repeat(p+"\n", below(3))
				tr, m = set(t, tr, p, step, of(t, text)), m.with(p, step, text)
			}
			check(t, tr, m)
			trees, models = append(trees, tr), append(models, m)
		}
		for i := range trees {
			check(t, trees[i], models[i])
		}
	}
}

// shape tells a node and those below apart from others.
func shape(n *node) string {
	if n == nil {
		return ""
	}
	var b strings.Builder
	b.WriteByte('(')
	for i := range len(n.files) + 1 {
		b.WriteString(shape(n.kid(i)))
		if i < len(n.files) {
			b.WriteString(n.files[i].path)
		}
	}
	b.WriteByte(')')
	return b.String()
}

// TestEveryShape goes through every tree that sets and drops of a few files can lead to, and tries every set and drop on it.
func TestEveryShape(t *testing.T) {
	paths := []string{"a", "b", "c", "d", "e", "f", "g", "h", "i"}
	seen := map[string]bool{}
	trees, models := []*Tree{nil}, []model{nil}
	for at := 0; at < len(trees); at++ {
		tr, m := trees[at], models[at]
		before := shape(tr.top())
		for _, p := range paths {
			next, left := (*Tree)(nil), model(nil)
			if _, there := m[p]; there {
				next, left = drop(t, tr, p), m.without(p)
				again := set(t, tr, p, 5, nil)
				if shape(again.root) != before || again.Version(p) != 5 || again.Len() != tr.Len() {
					t.Fatalf("%s became %s", before, shape(again.root))
				}
			} else {
				next, left = set(t, tr, p, 1, nil), m.with(p, 1, "")
			}
			if s := shape(next.root); !seen[s] {
				seen[s] = true
				check(t, next, left)
				trees, models = append(trees, next), append(models, left)
			}
		}
		if shape(tr.top()) != before {
			t.Fatalf("%s became %s", before, shape(tr.top()))
		}
	}
	for i, tr := range trees {
		check(t, tr, models[i])
	}
	if len(trees) < 1<<len(paths) {
		t.Errorf("%d trees", len(trees))
	}
}

// TestEveryOrder sets a few files in every order, and drops them in every order.
func TestEveryOrder(t *testing.T) {
	var every func(l, left []string, do func([]string))
	every = func(l, left []string, do func([]string)) {
		if len(left) == 0 {
			do(l)
		}
		for i, p := range left {
			every(append(slices.Clip(l), p), slices.Concat(left[:i], left[i+1:]), do)
		}
	}
	paths := []string{"a", "b", "c", "d", "e"}
	every(nil, paths, func(l []string) {
		full, m := built(t, l...)
		check(t, full, m)
		every(nil, paths, func(l []string) {
			tr := full
			for i, p := range l {
				tr = drop(t, tr, p)
				checkDeep(t, tr)
				if got := tr.Scan("", "z"); !slices.Equal(got, slices.Sorted(slices.Values(l[i+1:]))) {
					t.Fatalf("%q are left of %q", got, l[i+1:])
				}
			}
		})
		check(t, full, m)
	})
}

// nodes are those of a tree.
func nodes(n *node, into map[*node]bool) map[*node]bool {
	if n != nil {
		into[n] = true
		for _, k := range n.kids {
			nodes(k, into)
		}
	}
	return into
}

// TestShared tells that a tree shares all but a few nodes with the one that it was made from.
func TestShared(t *testing.T) {
	for kind := range orders {
		var tr *Tree
		for _, n := range order(1000, kind) {
			tr = set(t, tr, name(n), 1, nil)
		}
		old := nodes(tr.root, map[*node]bool{})
		for n := range 1001 {
			others := []*Tree{set(t, tr, name(n)+"!", 2, nil)}
			if n < 1000 {
				others = append(others, set(t, tr, name(n), 2, nil), drop(t, tr, name(n)))
			}
			for _, other := range others {
				fresh := 0
				for x := range nodes(other.root, map[*node]bool{}) {
					if !old[x] {
						fresh++
					}
				}
				if fresh > 2*tr.Deep()+1 {
					t.Fatalf("%d nodes are new", fresh)
				}
			}
		}
	}
}

// overlaps tells whether two strings share memory.
func overlaps(a, b string) bool {
	x, y := uintptr(unsafe.Pointer(unsafe.StringData(a))), uintptr(unsafe.Pointer(unsafe.StringData(b)))
	return x < y+uintptr(len(b)) && y < x+uintptr(len(a))
}

// TestNotKept tells that a tree keeps none of its arguments' memory, and hands out none of its own.
func TestNotKept(t *testing.T) {
	given := strings.Repeat("p", 32)
	tr := set(t, set(t, nil, "a", 1, of(t, "some text")), given, 1, of(t, "some text"))
	for f := range tr.from("") {
		if overlaps(f.path, given) {
			t.Errorf("the path %q was kept", f.path)
		}
		for _, p := range tr.Scan("", "\xff") {
			if overlaps(f.path, p) {
				t.Errorf("the path %q was handed out", p)
			}
		}
		for _, x := range tr.Files() {
			if overlaps(f.path, x.Path) {
				t.Errorf("the file %q was handed out", x.Path)
			}
		}
	}
}

// TestDroppedIsNotKept tells that no two nodes of a tree lie in one array, by which one would keep a file that was dropped from the other.
func TestDroppedIsNotKept(t *testing.T) {
	for kind := range orders {
		var tr *Tree
		for i, n := range order(200, kind) {
			tr = set(t, tr, name(n), 1, nil)
			if i%3 == 2 {
				tr = drop(t, tr, name(n))
			}
		}
		owner := map[*file]*node{}
		for n := range nodes(tr.root, map[*node]bool{}) {
			whole := n.files[:cap(n.files)]
			for i := range whole {
				if x := owner[&whole[i]]; x != nil {
					t.Fatalf("%q and %q lie in one array", x.files[0].path, n.files[0].path)
				}
				owner[&whole[i]] = n
				if i >= len(n.files) && whole[i] != (file{}) {
					t.Fatalf("%q is kept behind %q", whole[i].path, n.files[0].path)
				}
			}
		}
	}
}

// TestAnswersAreNew tells that changing what was returned changes no later answer.
func TestAnswersAreNew(t *testing.T) {
	tr, m := built(t, "a", "b", "c", "d", "e", "f")
	l, s := tr.Files(), tr.Scan("", "z")
	for i := range l {
		l[i] = api.File{Path: "x", Version: -1, Content: "y"}
		s[i] = "z"
	}
	_ = append(l[:0], api.File{Path: "0"})
	_ = append(s[:0], "0")
	check(t, tr, m)
}

// TestIteratorEndsEarly tells that the iterator over files yields no more than is wanted.
func TestIteratorEndsEarly(t *testing.T) {
	tr, m := built(t, "g", "c", "a", "i", "e", "b", "h", "d", "f", "k", "j", "l")
	sorted := m.paths()
	for first := range sorted {
		for wanted := 1; wanted <= len(sorted)-first; wanted++ {
			var l []string
			for f := range tr.from(sorted[first]) {
				if l = append(l, f.path); len(l) == wanted {
					break
				}
			}
			if !slices.Equal(l, sorted[first:first+wanted]) {
				t.Errorf("%d files from %q: %q", wanted, sorted[first], l)
			}
		}
	}
}

// TestAgain tells that calls in any order change nothing that a later one tells.
func TestAgain(t *testing.T) {
	for n := range 40 {
		var paths []string
		for _, i := range order(n, 3) {
			paths = append(paths, name(i))
		}
		tr, m := built(t, paths...)
		deep := tr.Deep()
		for range 2 {
			for i := range n + 1 {
				tr.Set(name(i), 99, nil)
				tr.Set(name(i)+"!", 99, of(t, "x"))
				tr.Set("no path", 99, nil)
				tr.Drop(name(i))
				tr.Drop("no path")
				tr.Scan(name(i), name(i+3))
				tr.Scan(name(i+3), name(i))
				tr.Get(name(i))
			}
			tr.Files()
			check(t, tr, m)
			if tr.Deep() != deep {
				t.Errorf("Deep: %d, and then %d", deep, tr.Deep())
			}
		}
		same, _ := built(t, paths...)
		if same.Deep() != deep || shape(same.top()) != shape(tr.top()) {
			t.Errorf("the same calls made another tree: %s and %s", shape(tr.top()), shape(same.top()))
		}
	}
}

// TestGreatTexts has as many files as there may be, some of them with the greatest text.
func TestGreatTexts(t *testing.T) {
	text := strings.Repeat("0123456789abcde\n", 4096)
	r := of(t, text)
	var tr *Tree
	m := model{}
	for n := range 1024 {
		if n%64 == 0 {
			tr, m[name(n)] = set(t, tr, name(n), n, r), kept{n, text}
		} else {
			tr, m[name(n)] = set(t, tr, name(n), n, nil), kept{n, ""}
		}
	}
	check(t, tr, m)
}
