package program_test

import (
	"math"
	"slices"
	"strings"
	"sync"
	"testing"

	"headgate/api"
	"headgate/program"
)

// numbers is a source of numbers that are the same each time.
type numbers struct{ x uint64 }

func (r *numbers) below(n int) int {
	r.x ^= r.x << 13
	r.x ^= r.x >> 7
	r.x ^= r.x << 17
	return int(r.x >> 33 % uint64(n))
}

func numbersOf(seed int) *numbers {
	return &numbers{uint64(seed)*0x9e3779b97f4a7c15 + 1}
}

// text is one of n bytes of an alphabet.
func (r *numbers) text(n int, alphabet string) string {
	b := make([]byte, n)
	for i := range b {
		b[i] = alphabet[r.below(len(alphabet))]
	}
	return string(b)
}

// some is one of some texts.
func (r *numbers) some(l ...string) string {
	return l[r.below(len(l))]
}

// Every short list of some commands, held against the chapter's words.
func TestShortLists(t *testing.T) {
	for _, c := range []struct {
		words string
		size  int
	}{
		{"{ }", 12}, {"{ } p", 8}, {"{ } bx :x", 6}, {":x :y bx ty", 6}, {": :x b tx", 6}, {"{ } : b t bx :x", 4}, {"{ } wa wb s", 5}, {"{ } p b t :x bx tx :y by w", 4},
	} {
		parts := list(c.words)
		programs := 0
		lists := [][]api.Command{nil}
		for size := range c.size + 1 {
			for _, l := range lists {
				for k := range l {
					l[k].Place = placeOf(k)
				}
				if checkTold(t, l) == api.OK {
					programs++
				}
			}
			if size == c.size {
				break
			}
			var longer [][]api.Command
			for _, l := range lists {
				for _, p := range parts {
					longer = append(longer, append(slices.Clone(l), p))
				}
			}
			lists = longer
		}
		if programs < 30 {
			t.Errorf("only %d lists of %q are programs", programs, c.words)
		}
	}
}

// node is an arbitrary pattern, or none that any text gives.
func (r *numbers) node(deep int) api.Node {
	n := api.Node{Kind: api.NodeKind(r.below(9)), Min: r.below(4), Max: r.below(5) - 1, Number: r.below(10)}
	n.Set[r.below(4)] = uint64(r.below(1 << 20))
	for range r.below(3) * min(deep, 1) {
		n.Kids = append(n.Kids, r.node(deep-1))
	}
	return n
}

func (r *numbers) address() api.Address {
	return api.Address{Kind: api.AddressKind(r.below(5)), Line: r.below(9), Pattern: r.node(2)}
}

// place is one that several commands may well have.
func (r *numbers) place() complex128 {
	return complex(float64(r.below(4)), float64(r.below(4)))
}

// command is an arbitrary one: of names that mean something, of letters, or of any byte.
func (r *numbers) command(names string, texts ...string) api.Command {
	c := api.Command{Place: r.place(), Name: names[r.below(len(names))], Text: r.some(texts...), File: r.some(texts...), Other: r.some(texts...)}
	if r.below(4) == 0 {
		c.From, c.To, c.Pattern = r.address(), r.address(), r.node(3)
		c.Not, c.Again, c.Global, c.Print, c.Count = r.below(2) == 0, r.below(2) == 0, r.below(2) == 0, r.below(2) == 0, r.below(5)
		for range r.below(3) {
			c.Template = append(c.Template, api.Piece{Text: r.some(texts...), N: r.below(10) - 1})
		}
	}
	return c
}

// letters are all names that a script's commands have.
const letters = "{}=abcdDgGhHilnNpPqrstwxy:"

// everyByte is an alphabet of all bytes.
func everyByte() string {
	b := make([]byte, 256)
	for c := range b {
		b[c] = byte(c)
	}
	return string(b)
}

// commands are an arbitrary list.
func (r *numbers) commands(size int) []api.Command {
	names := r.some(letters, letters, "{}", "{}p", "{}bt:", "{}bt:ws", "bt:", "ws", "pdbt{}", everyByte())
	texts := []string{"", "x", "y", "xx", "z", "a/b", "\xff", "\x80a", r.text(r.below(3), "xyz"), r.text(2, everyByte())}[:1+r.below(10)]
	var l []api.Command
	for range size {
		l = append(l, r.command(names, texts...))
	}
	return l
}

func TestArbitraryLists(t *testing.T) {
	given := map[api.Errno]int{}
	for seed := range 60000 {
		r := numbersOf(seed)
		size := r.below(12)
		if seed%50 == 0 {
			size = r.below(230)
		}
		given[checkTold(t, r.commands(size))]++
	}
	for _, e := range []api.Errno{api.OK, api.ErrBrace, api.ErrLabel, api.ErrLimit} {
		if given[e] < 100 {
			t.Errorf("the error %d only %d times", e, given[e])
		}
	}
}

// writer writes lists that are programs, and the jump of each command.
type writer struct {
	*numbers
	l      []api.Command
	jumps  []int
	labels map[string]int
	goers  []int // the b and t that have a text
}

// part writes some commands whose braces are closed, size of them at most.
func (w *writer) part(size int) {
	for size > 0 {
		n := w.below(size + 1)
		switch {
		case n >= 2:
			begin := len(w.l)
			w.add(w.command("{", "", "x"), 0)
			w.part(n - 2)
			w.jumps[begin] = len(w.l)
			w.add(w.command("}", "", "x"), 0)
			size -= n
		default:
			w.plain()
			size--
		}
	}
}

func (w *writer) add(c api.Command, jump int) {
	w.l, w.jumps = append(w.l, c), append(w.jumps, jump)
}

// plain writes one command without a brace.
func (w *writer) plain() {
	text := w.text(w.below(3), "xyz\xff")
	_, taken := w.labels[text]
	switch w.below(4) {
	case 0:
		w.goers = append(w.goers, len(w.l))
		w.add(w.command("bt", "?"), 0)
	case 1:
		if !taken {
			w.labels[text] = len(w.l)
			w.add(w.command(":", text), 0)
			return
		}
		fallthrough
	default:
		w.add(w.command("=acdDgGhHilnNpPqrswxy", text), 0)
	}
}

// written is a program of some commands.
func written(seed, size int) *writer {
	w := &writer{numbers: numbersOf(seed), labels: map[string]int{}}
	w.part(size)
	var labels []string
	for _, c := range w.l {
		if c.Name == ':' {
			labels = append(labels, c.Text)
		}
	}
	for _, k := range w.goers {
		text := w.some(append(labels, "")...)
		w.l[k].Text, w.jumps[k] = text, len(w.l)
		if text != "" {
			w.jumps[k] = w.labels[text]
		}
	}
	return w
}

func TestWritten(t *testing.T) {
	for seed := range 4000 {
		size := seed % 40
		if seed%100 == 0 {
			size = 200
		}
		w := written(seed, size)
		check(t, w.l, told{jumps: w.jumps})
		if seed%100 != 0 {
			checkOthers(t, w.l)
		}
	}
}

// Programs with one command taken away, put in, changed or moved.
func TestChanged(t *testing.T) {
	wrong := 0
	for seed := range 3000 {
		w := written(seed, 1+seed%20)
		k, n := w.below(len(w.l)), w.below(len(w.l))
		c := w.command(letters, "", "x", "y")
		swapped := slices.Clone(w.l)
		swapped[k], swapped[n] = swapped[n], swapped[k]
		changed := slices.Clone(w.l)
		changed[k] = c
		for _, l := range [][]api.Command{slices.Delete(slices.Clone(w.l), k, k+1), slices.Insert(slices.Clone(w.l), k, c), changed, swapped, slices.Concat(w.l, w.l)} {
			if checkTold(t, l) != api.OK {
				wrong++
			}
		}
	}
	if wrong < 3000 {
		t.Errorf("only %d were wrong", wrong)
	}
}

// checkJumps says where each jump leads (P14.2), and that the braces enclose one another.
func checkJumps(t *testing.T, p []api.Instruction) {
	t.Helper()
	closed := map[int]int{}
	for i, x := range p {
		c, to := x.Command, x.Jump
		right := true
		switch {
		case c.Name == '{':
			right = to > i && to < len(p) && p[to].Command.Name == '}'
			closed[to]++
			for k := i + 1; right && k < to; k++ {
				right = p[k].Command.Name != '{' || p[k].Jump < to
			}
		case (c.Name == 'b' || c.Name == 't') && c.Text == "":
			right = to == len(p)
		case c.Name == 'b' || c.Name == 't':
			right = to >= 0 && to < len(p) && p[to].Command.Name == ':' && p[to].Command.Text == c.Text
		default:
			right = to == 0
		}
		if !right {
			t.Fatalf("the jump of %d, %c%s, leads to %d of %d", i, c.Name, c.Text, to, len(p))
		}
	}
	for i, x := range p {
		if x.Command.Name == '}' && closed[i] != 1 {
			t.Fatalf("the } at %d closes %d {", i, closed[i])
		}
	}
}

func TestJumps(t *testing.T) {
	programs := 0
	for seed := range 40000 {
		r := numbersOf(seed)
		l := r.commands(r.below(15))
		if seed%4 == 0 {
			l = written(seed, seed%201).l
		}
		p, _, e := program.Compile(l)
		if e != api.OK {
			continue
		}
		checkJumps(t, p)
		programs++
	}
	if programs < 12000 {
		t.Errorf("only %d programs", programs)
	}
}

// Programs behind one another: the jumps of the second lead as far behind it as it stands, and those to the end to the new end.
func TestJoined(t *testing.T) {
	for seed := range 2000 {
		a, b := written(seed, seed%30), written(seed+5000, seed%23)
		for k, c := range b.l {
			if strings.IndexByte(":bt", c.Name) >= 0 && (c.Name == ':' || c.Text != "") {
				b.l[k].Text = "second " + c.Text
			}
		}
		l := slices.Concat(a.l, b.l)
		var jumps []int
		for k, c := range l {
			at, from := a, 0
			if k >= len(a.l) {
				at, from = b, len(a.l)
			}
			jump := at.jumps[k-from]
			switch {
			case strings.IndexByte("bt", c.Name) >= 0 && c.Text == "":
				jump = len(l)
			case strings.IndexByte("bt{", c.Name) >= 0:
				jump += from
			}
			jumps = append(jumps, jump)
		}
		check(t, l, told{jumps: jumps})
		if got, want := program.Deep(l), max(program.Deep(a.l), program.Deep(b.l)); got != want {
			t.Fatalf("Deep of two lists: %d; want %d", got, want)
		}
		files := append(program.Files(a.l), program.Files(b.l)...)
		slices.Sort(files)
		if got := program.Files(l); !slices.Equal(got, slices.Compact(files)) {
			t.Fatalf("Files of two lists: %q", got)
		}
	}
}

// inputs are lists for every call: programs, wrong ones, and others.
func inputs() [][]api.Command {
	l := [][]api.Command{nil, {}, list("{ p } b :x tx w s"), list("}"), list("{"), list(":x :x"), list("bx"), list("} { :x :x bz"), repeated("p", 200), repeated("p", 201), repeated("{", 1000), repeated("}", 1000), repeated(":", 200), make([]api.Command, 200), make([]api.Command, 300), {full('s', ""), full('{', "x"), full('}', "")}, {full('s', ""), full('{', "x")}, {full('b', "y")}, {{Name: '}', Place: complex(math.NaN(), math.Inf(1))}}, {{Name: 's', Count: math.MinInt, From: api.Address{Kind: -5, Line: math.MinInt}, Pattern: api.Node{Kind: 99, Min: math.MinInt, Max: -7, Number: math.MaxInt}, Template: []api.Piece{{N: math.MaxInt}, {N: math.MinInt}}}}}
	for seed := range 500 {
		l = append(l, numbersOf(seed).commands(seed%30), written(seed, seed%30).l)
	}
	return l
}

// answer is what a list is answered by all calls.
type answer struct {
	l     []api.Instruction
	p     complex128
	e     api.Errno
	deep  int
	files []string
}

func ask(l []api.Command) answer {
	p, place, e := program.Compile(l)
	return answer{p, place, e, program.Deep(l), program.Files(l)}
}

func (a answer) is(b answer) bool {
	return samePlace(a.p, b.p) && a.e == b.e && a.deep == b.deep && slices.Equal(a.files, b.files) && slices.EqualFunc(a.l, b.l, sameInstruction)
}

// P1 and P2 of the document: whatever is given, no call panics, and a call answers the same whatever was asked ahead of it, and on however many sides at once.
func TestTotalAndSame(t *testing.T) {
	l := inputs()
	var first []answer
	for _, x := range l {
		first = append(first, ask(x))
	}
	for k := len(l) - 1; k >= 0; k-- {
		if !ask(l[k]).is(first[k]) {
			t.Errorf("the same list is answered otherwise: %q", short(l[k]))
		}
	}
	var sides sync.WaitGroup
	for side := range 8 {
		sides.Go(func() {
			for k := range l {
				i := (k*3 + side*11) % len(l)
				if !ask(l[i]).is(first[i]) {
					t.Errorf("the same list is answered otherwise: %q", short(l[i]))
				}
			}
		})
	}
	sides.Wait()
}

// Beside an error there is nothing but the place of a command, and beside a program no place.
func TestErrorsAlone(t *testing.T) {
	for _, l := range inputs() {
		p, place, e := program.Compile(l)
		switch e {
		case api.OK:
			if len(p) != len(l) || place != 0 {
				t.Fatalf("%q: %d instructions, %v", short(l), len(p), place)
			}
		case api.ErrLimit:
			if len(p) != 0 || place != 0 || len(l) <= 200 {
				t.Fatalf("%q: %d instructions, %v, %v", short(l), len(p), place, e)
			}
		case api.ErrBrace, api.ErrLabel:
			if len(p) != 0 || !slices.ContainsFunc(l, func(c api.Command) bool { return samePlace(c.Place, place) }) {
				t.Fatalf("%q: %d instructions, %v, %v", short(l), len(p), place, e)
			}
		default:
			t.Fatalf("%q: the error %v", short(l), e)
		}
	}
}

// cloneNode and cloneCommands copy all there is in a list.
func cloneNode(n api.Node) api.Node {
	var kids []api.Node
	for _, kid := range n.Kids {
		kids = append(kids, cloneNode(kid))
	}
	n.Kids = kids
	return n
}

func cloneCommands(l []api.Command) []api.Command {
	var copied []api.Command
	for _, c := range l {
		c.Pattern, c.From.Pattern, c.To.Pattern = cloneNode(c.Pattern), cloneNode(c.From.Pattern), cloneNode(c.To.Pattern)
		c.Template = append([]api.Piece(nil), c.Template...)
		copied = append(copied, c)
	}
	return copied
}

// nodes are all nodes of a tree.
func nodes(n *api.Node) []*api.Node {
	l := []*api.Node{n}
	for k := range n.Kids {
		l = append(l, nodes(&n.Kids[k])...)
	}
	return l
}

// spoil changes everything that a command holds, also what its lists have room for.
func spoil(c *api.Command, k int) {
	for _, tree := range []*api.Node{&c.Pattern, &c.From.Pattern, &c.To.Pattern} {
		for i, n := range nodes(tree) {
			n.Number = 1000*k + i
			n.Kids = append(n.Kids, api.Node{Kind: api.End, Number: k})
		}
	}
	for i := range c.Template {
		c.Template[i] = api.Piece{Text: "other", N: k}
	}
	c.Template = append(c.Template, api.Piece{N: k})
	c.Name, c.Text, c.File, c.Place = 'X', "other", "other", 9
}

// roomy is a list in which every list has room behind it, where something stands that isn't its own.
func roomy(l []api.Command) []api.Command {
	other := full('}', "other")
	l = append(cloneCommands(l), other, other)[:len(l)]
	for k := range l {
		c := &l[k]
		c.Template = append(c.Template, api.Piece{Text: "own", N: 1}, api.Piece{Text: "other"})[:len(c.Template)+1]
		for _, tree := range []*api.Node{&c.Pattern, &c.From.Pattern, &c.To.Pattern} {
			for _, n := range nodes(tree) {
				n.Kids = append(n.Kids, api.Node{Number: 1}, api.Node{Number: 2})[:len(n.Kids)+1]
			}
		}
	}
	return l
}

// Arguments are neither changed nor kept, and what stands behind them is not read: whatever is done to one side leaves the other as it was.
func TestArgumentsStay(t *testing.T) {
	for _, given := range inputs() {
		l := roomy(given)
		before := cloneCommands(l)
		a := ask(l)
		if !slices.EqualFunc(l, before, sameCommand) {
			t.Fatalf("%q is changed", short(before))
		}
		for k := range l[:cap(l)][len(l):] {
			l[:cap(l)][len(l)+k] = api.Command{Name: '{', Place: 99}
		}
		if !ask(l).is(a) || !ask(before).is(a) {
			t.Fatalf("%q: what stands behind it is read", short(before))
		}
		for k := range a.l {
			spoil(&a.l[k].Command, k)
		}
		a.files = append(a.files, "other")
		for k := range a.files {
			a.files[k] = "other"
		}
		if !slices.EqualFunc(l, before, sameCommand) {
			t.Fatalf("%q shares memory with its program", short(before))
		}
		b := ask(l)
		for k := range l {
			spoil(&l[k], k)
		}
		if !b.is(ask(before)) {
			t.Fatalf("%q shares memory with its program", short(before))
		}
	}
}

// No two lists of a program share memory, even where those of the commands do.
func TestResultsAreNew(t *testing.T) {
	kids := []api.Node{{Number: 1}, {Number: 2, Kids: []api.Node{{Number: 3}}}}
	n := api.Node{Kind: api.Row, Kids: kids}
	c := api.Command{Name: 's', File: "f", Pattern: n, From: api.Address{Pattern: n}, To: api.Address{Pattern: api.Node{Kids: []api.Node{n, n}}}, Template: []api.Piece{{N: 1}, {N: 2}}}
	l := []api.Command{c, c, c}
	a, again := ask(l), ask(l)
	var trees []*api.Node
	for k := range a.l {
		c := &a.l[k].Command
		for _, tree := range []*api.Node{&c.Pattern, &c.From.Pattern, &c.To.Pattern} {
			trees = append(trees, nodes(tree)...)
		}
		for i := range c.Template {
			c.Template[i].N += 100 * (k + 1)
		}
		c.Template = append(c.Template, api.Piece{N: k})
	}
	for k, n := range trees {
		n.Number = k
		n.Kids = append(n.Kids, api.Node{Number: -1 - k})
	}
	for k, n := range trees {
		if n.Number != k || n.Kids[len(n.Kids)-1].Number != -1-k {
			t.Fatal("two lists of a program share memory")
		}
	}
	for k, x := range a.l {
		if !slices.Equal(x.Command.Template, []api.Piece{{N: 100*k + 101}, {N: 100*k + 102}, {N: k}}) {
			t.Fatal("two templates of a program share memory")
		}
	}
	if !again.is(ask(l)) || !again.is(answer{l: []api.Instruction{{Command: c}, {Command: c}, {Command: c}}, files: []string{"f"}}) {
		t.Fatal("two programs share memory")
	}
}
