package program_test

import (
	"math"
	"slices"
	"strings"
	"testing"

	"headgate/api"
	"headgate/program"
)

// told is what Compile should answer: beside api.OK the jumps of the commands.
type told struct {
	jumps []int
	p     complex128
	e     api.Errno
}

// closers are, for each {, the index of the } that closes it by the chapter's words: the first one after it such that each other { between them is closed. Of all others it is -1.
func closers(l []api.Command) []int {
	c := make([]int, len(l))
	for i := len(l) - 1; i >= 0; i-- {
		c[i] = -1
		if l[i].Name != '{' {
			continue
		}
		for j := i + 1; j < len(l) && c[i] < 0; j++ {
			if l[j].Name == '}' && allClosed(l, c, i+1, j) {
				c[i] = j
			}
		}
	}
	return c
}

// allClosed tells whether each { from an index up to another one is closed ahead of that.
func allClosed(l []api.Command, closers []int, from, to int) bool {
	for k := from; k < to; k++ {
		if l[k].Name == '{' && (closers[k] < 0 || closers[k] >= to) {
			return false
		}
	}
	return true
}

// toldCompile is what Compile should answer by the chapter's words.
func toldCompile(l []api.Command) told {
	if len(l) > 200 {
		return told{e: api.ErrLimit}
	}
	closers := closers(l)
	for i, c := range l {
		if c.Name == '}' && !slices.Contains(closers, i) {
			return told{p: c.Place, e: api.ErrBrace}
		}
	}
	for i := len(l) - 1; i >= 0; i-- {
		if l[i].Name == '{' && closers[i] < 0 {
			return told{p: l[i].Place, e: api.ErrBrace}
		}
	}
	for i, c := range l {
		if c.Name == ':' && labelOf(l[:i], c.Text) >= 0 {
			return told{p: c.Place, e: api.ErrLabel}
		}
	}
	jumps := make([]int, len(l))
	for i, c := range l {
		switch {
		case c.Name == '{':
			jumps[i] = closers[i]
		case c.Name != 'b' && c.Name != 't':
		case c.Text == "":
			jumps[i] = len(l)
		case labelOf(l, c.Text) < 0:
			return told{p: c.Place, e: api.ErrLabel}
		default:
			jumps[i] = labelOf(l, c.Text)
		}
	}
	return told{jumps: jumps}
}

// labelOf is the index of the : with a text, or -1.
func labelOf(l []api.Command, text string) int {
	return slices.IndexFunc(l, func(c api.Command) bool { return c.Name == ':' && c.Text == text })
}

// toldDeep is how many { there are at most of which none is closed up to some command.
func toldDeep(l []api.Command) int {
	closers := closers(l)
	most := 0
	for i := range l {
		open := 0
		for k := 0; k <= i; k++ {
			if l[k].Name == '{' && (closers[k] < 0 || closers[k] > i) {
				open++
			}
		}
		most = max(most, open)
	}
	return most
}

// toldFiles finds the least path, then the least one above that, and so on.
func toldFiles(l []api.Command) []string {
	var paths []string
	for {
		least, found := "", false
		for _, c := range l {
			path := c.Text
			if c.Name == 's' {
				path = c.File
			}
			writes := c.Name == 'w' || c.Name == 's' && path != ""
			above := len(paths) == 0 || path > paths[len(paths)-1]
			if writes && above && (!found || path < least) {
				least, found = path, true
			}
		}
		if !found {
			return paths
		}
		paths = append(paths, least)
	}
}

func sameNode(a, b api.Node) bool {
	return a.Kind == b.Kind && a.Set == b.Set && a.Min == b.Min && a.Max == b.Max && a.Number == b.Number && slices.EqualFunc(a.Kids, b.Kids, sameNode)
}

func sameAddress(a, b api.Address) bool {
	return a.Kind == b.Kind && a.Line == b.Line && sameNode(a.Pattern, b.Pattern)
}

// samePlace takes places bit by bit: one that is no number is like itself.
func samePlace(a, b complex128) bool {
	return math.Float64bits(real(a)) == math.Float64bits(real(b)) && math.Float64bits(imag(a)) == math.Float64bits(imag(b))
}

func sameCommand(a, b api.Command) bool {
	return samePlace(a.Place, b.Place) && a.Name == b.Name && sameAddress(a.From, b.From) && sameAddress(a.To, b.To) && a.Not == b.Not && a.Text == b.Text && a.Other == b.Other && sameNode(a.Pattern, b.Pattern) && a.Again == b.Again && slices.Equal(a.Template, b.Template) && a.Global == b.Global && a.Print == b.Print && a.Count == b.Count && a.File == b.File
}

func sameInstruction(a, b api.Instruction) bool {
	return a.Jump == b.Jump && sameCommand(a.Command, b.Command)
}

// short is a list's names and texts, or how it begins.
func short(l []api.Command) string {
	var words []string
	for _, c := range l[:min(len(l), 60)] {
		words = append(words, string([]byte{c.Name})+c.Text[:min(len(c.Text), 20)])
	}
	if len(l) > 60 {
		words = append(words, "and so on")
	}
	return strings.Join(words, " ")
}

// check holds what Compile answers against what it should.
func check(t testing.TB, l []api.Command, want told) {
	t.Helper()
	program, p, e := program.Compile(l)
	if e != want.e || !samePlace(p, want.p) || len(program) != len(want.jumps) {
		t.Fatalf("Compile(%q): %d instructions, %v, %v; want %d, %v, %v", short(l), len(program), p, e, len(want.jumps), want.p, want.e)
	}
	for k := range program {
		if !sameInstruction(program[k], api.Instruction{Command: l[k], Jump: want.jumps[k]}) {
			t.Fatalf("Compile(%q): instruction %d is\n%+v; want the jump %d and\n%+v", short(l), k, program[k], want.jumps[k], l[k])
		}
	}
}

// checkTold holds all calls against the chapter's words, and returns the error of Compile.
func checkTold(t testing.TB, l []api.Command) api.Errno {
	t.Helper()
	want := toldCompile(l)
	check(t, l, want)
	checkOthers(t, l)
	return want.e
}

// checkOthers does so with Deep and Files.
func checkOthers(t testing.TB, l []api.Command) {
	t.Helper()
	if got, want := program.Deep(l), toldDeep(l); got != want {
		t.Fatalf("Deep(%q): %d; want %d", short(l), got, want)
	}
	if got, want := program.Files(l), toldFiles(l); !slices.Equal(got, want) {
		t.Fatalf("Files(%q): %q; want %q", short(l), got, want)
	}
}
