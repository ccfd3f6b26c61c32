package match_test

import (
	"strconv"
	"strings"
	"testing"

	"headgate/api"
	"headgate/match"
)

// model tells by the chapter's words where trees match a text.
type model struct {
	text   string
	begins bool
	known  map[question]bool
}

// question is whether a tree matches from an index to another one. A tree is told from others by where its kids are.
type question struct {
	kind             api.NodeKind
	set              api.Set
	least, most      int
	kids             *api.Node
	count, from, end int
}

func newModel(text string, begins bool) *model {
	return &model{text, begins, map[question]bool{}}
}

// first is a tree's first kid, Nothing if it has none.
func first(n api.Node) api.Node {
	if len(n.Kids) == 0 {
		return api.Node{}
	}
	return n.Kids[0]
}

// others is a Row without its first kid.
func others(n api.Node) api.Node {
	n.Kids = n.Kids[1:]
	return n
}

// less is a Repeat with one round less.
func less(n api.Node) api.Node {
	n.Min = max(n.Min, 1) - 1
	if n.Max >= 0 {
		n.Max--
	}
	return n
}

// in tells whether a byte is in a set: bit c modulo 64 of word c/64 is 1.
func in(s api.Set, c byte) bool {
	return s[c/64]>>(c%64)&1 == 1
}

func (m *model) matches(n api.Node, i, j int) bool {
	q := question{n.Kind, n.Set, n.Min, n.Max, nil, len(n.Kids), i, j}
	if len(n.Kids) > 0 {
		q.kids = &n.Kids[0]
	}
	is, ok := m.known[q]
	if !ok {
		is = m.told(n, i, j)
		m.known[q] = is
	}
	return is
}

func (m *model) told(n api.Node, i, j int) bool {
	switch n.Kind {
	case api.One:
		return j == i+1 && in(n.Set, m.text[i])
	case api.Begin:
		return i == 0 && j == 0 && m.begins
	case api.End:
		return i == len(m.text) && j == len(m.text)
	case api.Row:
		return len(n.Kids) == 0 && i == j || len(n.Kids) > 0 && m.greatest(n, n.Kids[0], others(n), i, i, j) >= 0
	case api.Either:
		for _, kid := range n.Kids {
			if m.matches(kid, i, j) {
				return true
			}
		}
		return false
	case api.Group:
		return m.matches(first(n), i, j)
	case api.Repeat:
		if i == j {
			return n.Min <= 0 || m.matches(first(n), i, i)
		}
		return n.Max != 0 && m.greatest(n, first(n), less(n), i, i+1, j) >= 0
	}
	return i == j
}

// greatest is the greatest k, not less than a number, to which a kid matches so that the rest matches from there, -1 if there is none.
func (m *model) greatest(n, kid, rest api.Node, i, least, j int) int {
	for k := j; k >= least; k-- {
		if m.matches(kid, i, k) && m.matches(rest, k, j) {
			return k
		}
	}
	return -1
}

// numbered is a group's span.
type numbered struct {
	number int
	span   api.Span
}

// groups are those of a tree that matches, one behind the other.
func (m *model) groups(n api.Node, i, j int) []numbered {
	switch n.Kind {
	case api.Row:
		if len(n.Kids) > 0 {
			k := m.greatest(n, n.Kids[0], others(n), i, i, j)
			return append(m.groups(n.Kids[0], i, k), m.groups(others(n), k, j)...)
		}
	case api.Either:
		for _, kid := range n.Kids {
			if m.matches(kid, i, j) {
				return m.groups(kid, i, j)
			}
		}
	case api.Group:
		l := m.groups(first(n), i, j)
		if n.Number >= 1 && n.Number <= 9 {
			l = append([]numbered{{n.Number, api.Span{From: i, To: j}}}, l...)
		}
		return l
	case api.Repeat:
		if i < j {
			k := m.greatest(n, first(n), less(n), i, i+1, j)
			return append(m.groups(first(n), i, k), m.groups(less(n), k, j)...)
		}
		if n.Min > 0 {
			return m.groups(first(n), i, j)
		}
	}
	return nil
}

// find is what Find answers by the chapter's words.
func (m *model) find(n api.Node, from int) (api.Match, bool) {
	if from < 0 || from > len(m.text) || len(m.text) > 1024 {
		return api.Match{}, false
	}
	for i := from; i <= len(m.text); i++ {
		for j := len(m.text); j >= i; j-- {
			if m.matches(n, i, j) {
				return m.match(n, i, j), true
			}
		}
	}
	return api.Match{}, false
}

func (m *model) match(n api.Node, i, j int) api.Match {
	x := spans(i, j)
	for _, g := range m.groups(n, i, j) {
		x[g.number] = g.span
	}
	return x
}

// spans is a match of a whole and groups: of each where it begins and ends.
func spans(l ...int) api.Match {
	var m api.Match
	for k := range m {
		m[k] = api.Span{From: -1, To: -1}
	}
	for k := 0; k < len(l); k += 2 {
		m[k/2] = api.Span{From: l[k], To: l[k+1]}
	}
	return m
}

// shown is a tree as a text, for what tests say of it.
func shown(n api.Node) string {
	var kids []string
	for k, kid := range n.Kids {
		if k == 9 {
			kids = append(kids, "and so on")
			break
		}
		kids = append(kids, shown(kid))
	}
	s := "kind " + strconv.Itoa(int(n.Kind))
	if n.Kind >= 0 && n.Kind <= 7 {
		s = []string{"nothing", "one", "row", "either", "repeat", "group", "begin", "end"}[n.Kind]
	}
	switch n.Kind {
	case api.One:
		for c := range 256 {
			if in(n.Set, byte(c)) && len(s) < 40 {
				s += strconv.QuoteToASCII(string([]byte{byte(c)}))
			}
		}
	case api.Repeat:
		s += strconv.Itoa(n.Min) + ".." + strconv.Itoa(n.Max)
	case api.Group:
		s += strconv.Itoa(n.Number)
	}
	return s + "(" + strings.Join(kids, " ") + ")"
}

func short(text string) string {
	if len(text) > 240 {
		return text[:240] + " and so on"
	}
	return text
}

func checkFind(t testing.TB, n api.Node, text string, from int, begins bool, want api.Match, is bool) {
	t.Helper()
	m, ok := match.Find(n, text, from, begins)
	if ok != is || m != want {
		t.Fatalf("Find(%s, %q, %d, %v): %v, %v; want %v, %v", short(shown(n)), short(text), from, begins, m, ok, want, is)
	}
}

func checkIs(t testing.TB, n api.Node, text string, from, to int, begins, want bool) {
	t.Helper()
	if is := match.Is(n, text, from, to, begins); is != want {
		t.Fatalf("Is(%s, %q, %d, %d, %v): %v; want %v", short(shown(n)), short(text), from, to, begins, is, want)
	}
}

// checkTold holds all answers about a tree and a text against the chapter's words.
func checkTold(t testing.TB, n api.Node, text string) {
	t.Helper()
	for _, begins := range []bool{true, false} {
		m := newModel(text, begins)
		for from := -1; from <= len(text)+1; from++ {
			want, is := m.find(n, from)
			checkFind(t, n, text, from, begins, want, is)
			for to := -1; to <= len(text)+1; to++ {
				ordered := from >= 0 && from <= to && to <= len(text)
				checkIs(t, n, text, from, to, begins, ordered && m.matches(n, from, to))
			}
		}
	}
}
