package address_test

import (
	"slices"
	"sync"
	"testing"

	"headgate/address"
	"headgate/api"
)

// numbers is a source of numbers that are the same each time.
type numbers struct{ x uint64 }

func (r *numbers) below(n int) int {
	r.x ^= r.x << 13
	r.x ^= r.x >> 7
	r.x ^= r.x << 17
	return int(r.x >> 33 % uint64(n))
}

func numbersOf(seed int) *numbers {
	return &numbers{uint64(seed)*0x9e3779b97f4a7c15 + 1}
}

func (r *numbers) yes() bool {
	return r.below(2) == 0
}

// text is one of n bytes of an alphabet.
func (r *numbers) text(n int, alphabet string) string {
	b := make([]byte, n)
	for i := range b {
		b[i] = alphabet[r.below(len(alphabet))]
	}
	return string(b)
}

// number is a small one, one of the ends, or any.
func (r *numbers) number() int {
	switch r.below(4) {
	case 0:
		l := ends()
		return l[r.below(len(l))]
	case 1:
		return r.below(1<<31)<<31 | r.below(1<<31)
	}
	return r.below(8)
}

func (r *numbers) node(deep int) api.Node {
	n := api.Node{Kind: api.NodeKind(r.below(9)), Min: r.below(4), Max: r.below(5) - 1, Number: r.below(10)}
	n.Set[r.below(4)] = uint64(r.below(1 << 20))
	for range r.below(3) * min(deep, 1) {
		n.Kids = append(n.Kids, r.node(deep-1))
	}
	return n
}

// address is an arbitrary one; few of them are of a kind that there isn't.
func (r *numbers) address() api.Address {
	kind := api.AddressKind(r.below(5))
	if r.below(20) == 0 {
		kind = kinds[r.below(len(kinds))]
	}
	return api.Address{Kind: kind, Line: r.number(), Pattern: r.node(2)}
}

func (r *numbers) command() api.Command {
	return api.Command{Place: complex(float64(r.below(9)), float64(r.below(9))), Name: byte(r.below(256)), From: r.address(), To: r.address(), Not: r.yes(), Text: r.text(r.below(3), "ab"), Other: r.text(r.below(3), "ab"), Pattern: r.node(1), Again: r.yes(), Template: make([]api.Piece, r.below(3)), Global: r.yes(), Print: r.yes(), Count: r.number(), File: r.text(r.below(3), "ab")}
}

func (r *numbers) look() address.Look {
	return address.Look{Number: r.number(), Last: r.yes(), First: r.yes(), Second: r.yes()}
}

// Arbitrary commands and looks; often the numbers are next to each other.
func TestArbitraryLooks(t *testing.T) {
	var selected, opened int
	for seed := range 300000 {
		r := numbersOf(seed)
		c, x := r.command(), r.look()
		if r.yes() {
			c.From.Line = x.Number + r.below(3) - 1
		}
		if r.yes() {
			c.To.Line = x.Number + r.below(3) - 1
		}
		checkTold(t, c, r.yes(), x)
		in, open := address.Selects(c, r.yes(), x)
		if in {
			selected++
		}
		if open {
			opened++
		}
	}
	if min(selected, opened) < 30000 {
		t.Errorf("only %d lines are selected, only %d ranges open", selected, opened)
	}
}

// Lines that are left out, as where a command reads them itself: the state is handed on from look to look.
func TestArbitraryLines(t *testing.T) {
	for seed := range 30000 {
		r := numbersOf(seed)
		c := r.command()
		if r.below(3) > 0 {
			c.From.Line, c.To.Line = r.below(12), r.below(12)
		}
		open := false
		for number := 1; number < 16; number += 1 + r.below(3) {
			x := address.Look{Number: number, Last: r.below(8) == 0, First: r.yes(), Second: r.yes()}
			checkTold(t, c, open, x)
			_, open = address.Selects(c, open, x)
		}
	}
}

// P15.2: whole runs of lines, told range by range.
func TestWholeRuns(t *testing.T) {
	for _, from := range []string{"", "1", "2", "4", "9", "$", "/", "//"} {
		for _, to := range []string{"", "1", "2", "3", "5", "9", "$", "/", "//"} {
			for _, not := range []string{"", "!"} {
				c := commandOf(from + "," + to + not)
				for seed := range 200 {
					r := numbersOf(seed)
					n := r.below(10)
					first, second := r.text(n, "x.."), r.text(n, "x..")
					in, _ := run(c, n, first, second)
					if want := toldRange(c, n, first, second); in != want {
						t.Fatalf("%s,%s%s (%s, %s): %s; want %s", from, to, not, first, second, in, want)
					}
				}
			}
		}
	}
}

// Every way in which two patterns can match in few lines.
func TestWholeRunsOfPatterns(t *testing.T) {
	for n := range 6 {
		for bits := range 1 << (2 * n) {
			first, second := "", ""
			for k := range n {
				first += mark(bits>>k&1 != 0)
				second += mark(bits>>(k+n)&1 != 0)
			}
			for _, words := range []string{"/,/", "//,/", "/,//", "//,//", "/,3", "//,2!", "/,$", "2,/", ",//", "$,/", "/,1", "/", "//!"} {
				c := commandOf(words)
				in, _ := run(c, n, first, second)
				if want := toldRange(c, n, first, second); in != want {
					t.Fatalf("%s (%s, %s): %s; want %s", words, first, second, in, want)
				}
			}
		}
	}
}

// P15.3: a run in which only the patterns are asked that are needed selects what it selects where all are.
func TestNotNeeded(t *testing.T) {
	for seed := range 30000 {
		r := numbersOf(seed)
		c := r.command()
		c.From.Line, c.To.Line = r.below(12), r.below(12)
		n := r.below(12)
		first, second := r.text(n, "x."), r.text(n, "x.")
		open, spared := false, false
		for k := range n {
			x := address.Look{Number: k + 1, Last: k == n-1, First: marked(first, k), Second: marked(second, k)}
			y := address.Look{Number: x.Number, Last: x.Last}
			needsFirst, needsSecond := address.Needs(c, spared)
			if needsFirst {
				y.First = x.First
			}
			if needsSecond {
				y.Second = x.Second
			}
			var all, some bool
			all, open = address.Selects(c, open, x)
			some, spared = address.Selects(c, spared, y)
			if all != some || open != spared {
				t.Fatalf("%s (%s, %s): line %d is selected otherwise", short(c), first, second, k+1)
			}
		}
	}
}

// What is needed matters: there is a look that is answered otherwise if it is turned.
func TestNeeded(t *testing.T) {
	for _, from := range addresses(2) {
		for _, to := range addresses(2) {
			for _, open := range []bool{false, true} {
				c := api.Command{From: from, To: to}
				first, second := address.Needs(c, open)
				if first != matters(c, open, address.Look{First: true}) || second != matters(c, open, address.Look{Second: true}) {
					t.Errorf("Needs(%s, %v): %v, %v", short(c), open, first, second)
				}
			}
		}
	}
}

// matters tells whether some look is answered otherwise with a pattern that matches than without.
func matters(c api.Command, open bool, turn address.Look) bool {
	for number := 1; number < 4; number++ {
		for bits := range 8 {
			x := address.Look{Number: number, Last: bits&1 != 0, First: bits&2 != 0, Second: bits&4 != 0}
			y := x
			y.First, y.Second = x.First != turn.First, x.Second != turn.Second
			if answerOf(c, open, x) != answerOf(c, open, y) {
				return true
			}
		}
	}
	return false
}

// answer is what all calls answer.
type answer struct{ in, open, first, second bool }

func answerOf(c api.Command, open bool, x address.Look) answer {
	var a answer
	a.in, a.open = address.Selects(c, open, x)
	a.first, a.second = address.Needs(c, open)
	return a
}

// question is what a call is given.
type question struct {
	c    api.Command
	open bool
	x    address.Look
}

func questions() []question {
	var l []question
	for seed := range 20000 {
		r := numbersOf(seed)
		l = append(l, question{r.command(), r.yes(), r.look()})
	}
	return l
}

// P1 and P2: the same question has the same answer, whatever was asked ahead of it, and beside it.
func TestTotalAndSame(t *testing.T) {
	l := questions()
	var first []answer
	for _, q := range l {
		first = append(first, answerOf(q.c, q.open, q.x))
	}
	for k := len(l) - 1; k >= 0; k-- {
		if answerOf(l[k].c, l[k].open, l[k].x) != first[k] {
			t.Fatalf("the same look is answered otherwise: %s", short(l[k].c))
		}
	}
	var sides sync.WaitGroup
	for side := range 8 {
		sides.Go(func() {
			for k := range l {
				q := l[(k*3+side*11)%len(l)]
				if answerOf(q.c, q.open, q.x) != first[(k*3+side*11)%len(l)] {
					t.Errorf("the same look is answered otherwise: %s", short(q.c))
				}
			}
		})
	}
	sides.Wait()
}

// cloneNode copies all there is in a tree.
func cloneNode(n api.Node) api.Node {
	var kids []api.Node
	for _, kid := range n.Kids {
		kids = append(kids, cloneNode(kid))
	}
	n.Kids = kids
	return n
}

func sameNode(a, b api.Node) bool {
	return a.Kind == b.Kind && a.Set == b.Set && a.Min == b.Min && a.Max == b.Max && a.Number == b.Number && slices.EqualFunc(a.Kids, b.Kids, sameNode)
}

// Arguments are not changed.
func TestArgumentsStay(t *testing.T) {
	for _, q := range questions() {
		c := q.c
		trees := []*api.Node{&c.Pattern, &c.From.Pattern, &c.To.Pattern}
		var before []api.Node
		for _, tree := range trees {
			before = append(before, cloneNode(*tree))
		}
		template := slices.Clone(c.Template)
		answerOf(c, q.open, q.x)
		for k, tree := range trees {
			if !sameNode(*tree, before[k]) {
				t.Fatalf("%s: a pattern is changed", short(c))
			}
		}
		if !slices.Equal(c.Template, template) {
			t.Fatalf("%s: a template is changed", short(c))
		}
	}
}
