package pattern_test

import (
	"regexp"
	"strconv"
	"strings"
	"testing"

	"headgate/api"
	"headgate/class"
	"headgate/pattern"
)

// setOf is the set with the bytes of a text: bit c modulo 64 of word c/64 is 1.
func setOf(text string) api.Set {
	var s api.Set
	for _, c := range []byte(text) {
		s[c/64] |= 1 << (c % 64)
	}
	return s
}

// run is a text of the bytes from low to high.
func run(low, high int) string {
	var b []byte
	for c := low; c <= high; c++ {
		b = append(b, byte(c))
	}
	return string(b)
}

// others is the set of the bytes that are not in a text.
func others(text string) api.Set {
	s := setOf(text)
	for k := range s {
		s[k] = ^s[k]
	}
	return s
}

func of(s api.Set) api.Node       { return api.Node{Kind: api.One, Set: s} }
func one(text string) api.Node    { return of(setOf(text)) }
func dot() api.Node               { return one(run(0, 255)) }
func begin() api.Node             { return api.Node{Kind: api.Begin} }
func end() api.Node               { return api.Node{Kind: api.End} }
func row(l ...api.Node) api.Node  { return api.Node{Kind: api.Row, Kids: l} }
func bars(l ...api.Node) api.Node { return api.Node{Kind: api.Either, Kids: l} }

func group(number int, kid api.Node) api.Node {
	return api.Node{Kind: api.Group, Number: number, Kids: []api.Node{kid}}
}

func times(least, most int, kid api.Node) api.Node {
	return api.Node{Kind: api.Repeat, Min: least, Max: most, Kids: []api.Node{kid}}
}

// each is a Row of the bytes of a text, of which there are two or more.
func each(text string) api.Node {
	n := api.Node{Kind: api.Row}
	for k := range len(text) {
		n.Kids = append(n.Kids, one(text[k:k+1]))
	}
	return n
}

// same tells whether two trees have the same nodes; a list without kids may be nil or not.
func same(a, b api.Node) bool {
	if a.Kind != b.Kind || a.Set != b.Set || a.Min != b.Min || a.Max != b.Max || a.Number != b.Number || len(a.Kids) != len(b.Kids) {
		return false
	}
	for k := range a.Kids {
		if !same(a.Kids[k], b.Kids[k]) {
			return false
		}
	}
	return true
}

// nodes is how many nodes a tree has, counted level by level.
func nodes(n api.Node) int {
	count := 0
	for level := []api.Node{n}; len(level) > 0; {
		count += len(level)
		var below []api.Node
		for _, n := range level {
			below = append(below, n.Kids...)
		}
		level = below
	}
	return count
}

// shown is a tree as a text, for what tests say of it.
func shown(n api.Node) string {
	var kids []string
	for _, kid := range n.Kids {
		kids = append(kids, shown(kid))
	}
	s := []string{"nothing", "one", "row", "either", "repeat", "group", "begin", "end"}[n.Kind]
	switch n.Kind {
	case api.One:
		for c := range 256 {
			if n.Set[c/64]>>(c%64)&1 == 1 && class.Count(n.Set) < 9 {
				s += strconv.QuoteToASCII(string([]byte{byte(c)}))
			}
		}
	case api.Repeat:
		s += strconv.Itoa(n.Min) + ".." + strconv.Itoa(n.Max)
	case api.Group:
		s += strconv.Itoa(n.Number)
	}
	return s + "(" + strings.Join(kids, " ") + ")"
}

func short(text string) string {
	if len(text) > 240 {
		return text[:240] + " and so on"
	}
	return text
}

func checkTree(t testing.TB, text string, extended bool, want api.Node) {
	t.Helper()
	n, e := pattern.Parse(text, extended)
	if e != api.OK || !same(n, want) {
		t.Fatalf("Parse(%q, %v): %s, %v; want %s", short(text), extended, shown(n), e, shown(want))
	}
	if size := pattern.Size(n); size != nodes(want) {
		t.Fatalf("Size of %q, %v: %d; want %d", short(text), extended, size, nodes(want))
	}
}

func checkError(t testing.TB, text string, extended bool) {
	t.Helper()
	n, e := pattern.Parse(text, extended)
	if e != api.ErrPattern || !same(n, api.Node{}) {
		t.Fatalf("Parse(%q, %v): %s, %v; want ErrPattern", short(text), extended, shown(n), e)
	}
}

// part is a part of a text: from an index up to another one.
type part struct{ from, to int }

// place is where a row goes on at an index, and within which part it stands.
type place struct {
	row part
	at  int
}

// teller tells by the chapter's words which trees a text has, by every way to divide it; groups have no numbers.
type teller struct {
	text     string
	extended bool
	rest     map[place][][]api.Node
	either   map[part][]api.Node
	brackets []int // where one begins, behind its [: its length, 0 if there is none, -1 if nobody asked yet
	sets     []api.Set
}

func newTeller(text string, extended bool) *teller {
	t := &teller{text: text, extended: extended, rest: map[place][][]api.Node{}, either: map[part][]api.Node{}}
	t.brackets, t.sets = make([]int, len(text)+1), make([]api.Set, len(text)+1)
	for k := range t.brackets {
		t.brackets[k] = -1
	}
	return t
}

// told are the trees that a text has by the chapter's words, with their groups numbered.
func told(text string, extended bool) []api.Node {
	if len(text) < 1 || len(text) > 200 {
		return nil
	}
	t := newTeller(text, extended)
	var l []api.Node
	for _, n := range t.content(part{0, len(text)}) {
		count := 0
		n = numbered(n, &count)
		if count <= 9 {
			l = append(l, n)
		}
	}
	return l
}

// numbered is a tree whose groups are numbered in the order in which they open.
func numbered(n api.Node, count *int) api.Node {
	if n.Kind == api.Group {
		*count++
		n.Number = *count
	}
	var kids []api.Node
	for _, kid := range n.Kids {
		kids = append(kids, numbered(kid, count))
	}
	n.Kids = kids
	return n
}

// content are the trees of a pattern, or of what is in a group: of a row or, if it is extended, of alternatives.
func (t *teller) content(p part) []api.Node {
	if !t.extended {
		return t.rows(p)
	}
	if l, ok := t.either[p]; ok {
		return l
	}
	var l []api.Node
	for _, rows := range t.alternatives(p) {
		if len(rows) == 1 {
			l = append(l, rows[0])
		} else {
			l = append(l, bars(rows...))
		}
	}
	t.either[p] = l
	return l
}

// alternatives are the ways to divide a part as rows with a | between them.
func (t *teller) alternatives(p part) [][]api.Node {
	var l [][]api.Node
	for _, n := range t.rows(p) {
		l = append(l, []api.Node{n})
	}
	for k := p.from; k < p.to; k++ {
		if t.text[k] != '|' {
			continue
		}
		for _, n := range t.rows(part{p.from, k}) {
			for _, others := range t.alternatives(part{k + 1, p.to}) {
				l = append(l, append([]api.Node{n}, others...))
			}
		}
	}
	return l
}

func (t *teller) rows(p part) []api.Node {
	var l []api.Node
	for _, pieces := range t.pieces(p, p.from) {
		if len(pieces) == 1 {
			l = append(l, pieces[0])
		} else if len(pieces) > 1 {
			l = append(l, row(pieces...))
		}
	}
	return l
}

// pieces are the ways to divide what a row has from an index on.
func (t *teller) pieces(p part, at int) [][]api.Node {
	if at == p.to {
		return [][]api.Node{nil}
	}
	if l, ok := t.rest[place{p, at}]; ok {
		return l
	}
	var l [][]api.Node
	for to := at + 1; to <= p.to; to++ {
		for _, n := range t.piece(p, part{at, to}) {
			for _, others := range t.pieces(p, to) {
				l = append(l, append([]api.Node{n}, others...))
			}
		}
	}
	t.rest[place{p, at}] = l
	return l
}

func (t *teller) piece(p, x part) []api.Node {
	if t.begins(p, x.from) || t.ends(p, x.from) {
		if x.to > x.from+1 {
			return nil
		}
		if t.text[x.from] == '^' {
			return []api.Node{begin()}
		}
		return []api.Node{end()}
	}
	l := t.atom(p, x)
	for k := x.from + 1; k < x.to; k++ {
		least, most, ok := t.repetition(t.text[k:x.to])
		if !ok {
			continue
		}
		for _, n := range t.atom(p, part{x.from, k}) {
			l = append(l, times(least, most, n))
		}
	}
	return l
}

// begins tells whether a byte of a row is a Begin.
func (t *teller) begins(p part, at int) bool {
	return t.text[at] == '^' && (t.extended || at == p.from)
}

// ends tells whether a byte of a row is an End.
func (t *teller) ends(p part, at int) bool {
	return t.text[at] == '$' && (t.extended || at+1 == p.to)
}

// The intervals of the two syntaxes, and numbers of an interval.
var (
	basicInterval    = regexp.MustCompile(`^\\\{([0-9]{1,3})(,([0-9]{1,3})?)?\\\}$`)
	extendedInterval = regexp.MustCompile(`^\{([0-9]{1,3})(,([0-9]{1,3})?)?\}$`)
)

// repetition is how often a text behind an atom repeats it, and whether it does.
func (t *teller) repetition(text string) (int, int, bool) {
	interval := basicInterval
	if t.extended {
		interval = extendedInterval
	}
	switch {
	case text == "*":
		return 0, -1, true
	case t.extended && text == "+":
		return 1, -1, true
	case t.extended && text == "?":
		return 0, 1, true
	}
	m := interval.FindStringSubmatch(text)
	if m == nil {
		return 0, 0, false
	}
	least, _ := strconv.Atoi(m[1])
	most := least
	if m[2] != "" {
		most = -1
	}
	if m[3] != "" {
		most, _ = strconv.Atoi(m[3])
	}
	return least, most, least <= 20 && most <= 20 && (most == -1 || least <= most)
}

func (t *teller) atom(p, x part) []api.Node {
	text := t.text[x.from:x.to]
	opening, special := `\(`, `\.[*`
	if t.extended {
		opening, special = "(", `\.[()|*+?{`
	}
	closing := strings.ReplaceAll(opening, "(", ")")
	if strings.HasPrefix(text, opening) && strings.HasSuffix(text, closing) && len(text) > len(opening)+len(closing) {
		var l []api.Node
		for _, n := range t.content(part{x.from + len(opening), x.to - len(closing)}) {
			l = append(l, group(0, n))
		}
		return l
	}
	switch {
	case text == ".":
		return []api.Node{dot()}
	case text[0] == '[':
		return t.bracket(x)
	case text[0] == '\\':
		return t.escape(text)
	case len(text) > 1:
		return nil
	case t.plainStar(p, x.from) || strings.IndexByte(special, text[0]) < 0:
		return []api.Node{one(text)}
	}
	return nil
}

// plainStar tells whether a byte is a * that is itself: at the beginning of a basic pattern, or of a group, or behind a Begin there.
func (t *teller) plainStar(p part, at int) bool {
	return !t.extended && t.text[at] == '*' && (at == p.from || at == p.from+1 && t.text[p.from] == '^')
}

func (t *teller) bracket(x part) []api.Node {
	at := x.from + 1
	if t.brackets[at] < 0 {
		t.sets[at], t.brackets[at], _ = class.Bracket(t.text[at:])
	}
	if n := t.brackets[at]; n > 0 && at+n == x.to {
		return []api.Node{of(t.sets[at])}
	}
	return nil
}

func (t *teller) escape(text string) []api.Node {
	allowed := `.[]\*^$/`
	if t.extended {
		allowed += `()|+?{}`
	}
	switch {
	case text == `\n`:
		return []api.Node{one("\n")}
	case len(text) == 2 && strings.IndexByte(allowed, text[1]) >= 0:
		return []api.Node{one(text[1:])}
	}
	return nil
}

// checkTold holds what a text is answered against the chapter's words, and tells whether it is a pattern.
func checkTold(t testing.TB, text string, extended bool) bool {
	t.Helper()
	l := told(text, extended)
	switch len(l) {
	case 0:
		checkError(t, text, extended)
	case 1:
		checkTree(t, text, extended, l[0])
	default:
		t.Fatalf("%q, %v has %d trees by the chapter's words", short(text), extended, len(l))
	}
	return len(l) == 1
}

// checkBoth does so with both syntaxes.
func checkBoth(t testing.TB, text string) {
	t.Helper()
	checkTold(t, text, false)
	checkTold(t, text, true)
}
