package program_test

import (
	"math"
	"slices"
	"strconv"
	"strings"
	"testing"

	"headgate/api"
	"headgate/program"
)

// repeated is a list of some words n times.
func repeated(words string, n int) []api.Command {
	return list(strings.Repeat(words+" ", n))
}

func checkLimit(t *testing.T, l []api.Command) {
	t.Helper()
	check(t, l, told{e: api.ErrLimit})
}

// A program has at most 200 commands, whatever else is wrong.
func TestCounts(t *testing.T) {
	check(t, nil, told{})
	check(t, []api.Command{}, told{})
	for _, n := range []int{1, 2, 199, 200} {
		check(t, repeated("p", n), told{jumps: make([]int, n)})
		check(t, make([]api.Command, n), told{jumps: make([]int, n)})
		check(t, repeated("b", n), told{jumps: slices.Repeat([]int{n}, n)})
		check(t, repeated("}", n), told{p: placeOf(0), e: api.ErrBrace})
		check(t, repeated("{", n), told{p: placeOf(n - 1), e: api.ErrBrace})
		check(t, repeated("bx", n), told{p: placeOf(0), e: api.ErrLabel})
	}
	for _, n := range []int{201, 202, 256, 400, 10000} {
		checkLimit(t, make([]api.Command, n))
		for _, words := range []string{"p", "}", "{", ":x", ":", "bx", "t"} {
			checkLimit(t, repeated(words, n))
		}
		for _, words := range []string{"}", "{", ":x :x", "bx"} {
			l := list(words)
			checkLimit(t, append(slices.Clone(l), repeated("p", n-len(l))...))
			checkLimit(t, append(repeated("p", n-len(l)), l...))
		}
	}
	checkLimit(t, repeated("{ }", 101))
	check(t, append(repeated("p", 199), list("}")...), told{p: placeOf(0), e: api.ErrBrace})
}

// What stands at the two ends of the longest program.
func TestLongest(t *testing.T) {
	jumps := make([]int, 200)
	jumps[0] = 199
	check(t, append(append(list("{"), repeated("p", 198)...), list("}")...), told{jumps: jumps})
	check(t, append(repeated("p", 198), list("{ }")...), told{jumps: append(make([]int, 198), 199, 0)})
	check(t, append(list("bx"), append(repeated("p", 198), list(":x")...)...), told{jumps: jumps})
	check(t, append(list(":x"), append(repeated("p", 198), list("bx")...)...), told{jumps: make([]int, 200)})
	check(t, append(repeated("p", 199), list("t")...), told{jumps: append(make([]int, 199), 200)})
	for k := range 100 {
		jumps[k], jumps[100+k] = 199-k, 0
	}
	check(t, append(repeated("{", 100), repeated("}", 100)...), told{jumps: jumps})
	for k := range 100 {
		jumps[2*k], jumps[2*k+1] = 2*k+1, 0
	}
	check(t, repeated("{ }", 100), told{jumps: jumps})
}

// An error is at its command's place, whichever that is: several commands may have it, and it may be none of a text.
func TestPlaces(t *testing.T) {
	nan := math.NaN()
	for _, p := range []complex128{0, 1 + 1i, 2 + 3i, -1 - 1i, 0.5, complex(math.Inf(1), math.Inf(-1)), complex(nan, 1), complex(1, nan), complex(nan, nan), complex(math.Copysign(0, -1), 0), 1e300, 5e-324i} {
		for words, e := range map[string]api.Errno{"p }": api.ErrBrace, "{ p {": api.ErrBrace, ":x p :x": api.ErrLabel, "p bx": api.ErrLabel} {
			l := list(words)
			for k := range l {
				l[k].Place = p
			}
			check(t, l, told{p: p, e: e})
		}
		l := list("p { b :x }")
		for k := range l {
			l[k].Place = p
		}
		check(t, l, told{jumps: []int{0, 4, 5, 0, 0}})
		l = repeated("p", 201)
		for k := range l {
			l[k].Place = p
		}
		checkLimit(t, l)
	}
}

// Places don't order commands: a list does.
func TestPlacesBackwards(t *testing.T) {
	for words, k := range map[string]int{"{ } } }": 2, "{ {": 1, ":x :x :x": 1, "bx by": 0} {
		l := list(words)
		for i := range l {
			l[i].Place = complex(float64(9-i), float64(9-i))
		}
		if _, p, _ := program.Compile(l); p != complex(float64(9-k), float64(9-k)) {
			t.Errorf("Compile(%q): the place %v", words, p)
		}
	}
}

// Each byte as a command's name: all but five have the jump 0 and are never wrong.
func TestEachName(t *testing.T) {
	for c := range 256 {
		name := byte(c)
		l := []api.Command{{Name: 'p'}, {Name: name, Text: "x", Place: 2 + 1i}, {Name: ':', Text: "x", Place: 3 + 1i}}
		switch name {
		case '{', '}':
			check(t, l, told{p: 2 + 1i, e: api.ErrBrace})
		case ':':
			check(t, l, told{p: 3 + 1i, e: api.ErrLabel})
		case 'b', 't':
			check(t, l, told{jumps: []int{0, 2, 0}})
			check(t, l[:2], told{p: 2 + 1i, e: api.ErrLabel})
		default:
			check(t, l, told{jumps: []int{0, 0, 0}})
			check(t, l[:2], told{jumps: []int{0, 0}})
		}
		l = []api.Command{{Name: name, File: "f", Text: "w"}}
		checkOthers(t, l)
		l = []api.Command{{Name: name}, {Name: name}, {Name: name}}
		checkTold(t, l)
	}
}

// full is a command with something in each of its fields.
func full(name byte, text string) api.Command {
	leaf := api.Node{Kind: api.One, Set: api.Set{1, 2, 3, 4}, Min: 5, Max: 6, Number: 7}
	n := api.Node{Kind: api.Row, Kids: []api.Node{leaf, {Kind: api.Repeat, Max: -1, Kids: []api.Node{leaf}}}}
	return api.Command{
		Place: 4 + 2i, Name: name, Not: true, Text: text, Other: "o", Pattern: n, Again: true, Global: true, Print: true, Count: 3, File: "f",
		From:     api.Address{Kind: api.Pattern, Line: 1, Pattern: api.Node{Kind: api.Group, Number: 1, Kids: []api.Node{n}}},
		To:       api.Address{Kind: api.Line, Line: 2, Pattern: api.Node{Kind: api.Either, Kids: []api.Node{n, leaf}}},
		Template: []api.Piece{{Text: "t", N: -1}, {N: 2}},
	}
}

// Instructions have their commands whole, and jumps depend on names and texts alone.
func TestFullCommands(t *testing.T) {
	l := []api.Command{full('{', "x"), full('b', "x"), full(':', "x"), full('t', ""), full('}', ""), full('s', "x"), full('w', "g"), full('}'-1, "x"), full(0, "")}
	check(t, l, told{jumps: []int{4, 2, 0, 9, 0, 0, 0, 0, 0}})
	checkOthers(t, l)
	check(t, []api.Command{full('p', ""), full('}', "")}, told{p: 4 + 2i, e: api.ErrBrace})
	check(t, []api.Command{full('p', ""), full('b', "y")}, told{p: 4 + 2i, e: api.ErrLabel})
}

// Labels are the same if all their bytes are.
func TestLabelTexts(t *testing.T) {
	long := strings.Repeat("long", 1<<16)
	texts := []string{"x", "X", "xx", "x ", " x", "x\x00", "\x00", "\x00\x00", " ", "\n", "}", "{", ":", ";", "b", "0", "00", "\x80", "\xff", "\xc3\xa9", "e\u0301", "\u00e9x", long, long + "x", "x" + long}
	var l []api.Command
	for _, text := range texts {
		l = append(l, api.Command{Name: ':', Text: text})
	}
	jumps := make([]int, len(l))
	for k, text := range texts {
		l = append(l, api.Command{Name: "bt"[k%2], Text: text})
		jumps = append(jumps, k)
	}
	check(t, l, told{jumps: jumps})
	for k, text := range texts {
		check(t, append(slices.Clone(l[:k]), api.Command{Name: 't', Text: text, Place: 1 + 7i}), told{p: 1 + 7i, e: api.ErrLabel})
		check(t, append(slices.Clone(l), api.Command{Name: ':', Text: text, Place: 1 + 7i}), told{p: 1 + 7i, e: api.ErrLabel})
	}
}

// As many labels as there can be, and a jump to each of them.
func TestManyLabels(t *testing.T) {
	var l []api.Command
	var jumps []int
	for k := range 100 {
		l = append(l, api.Command{Name: ':', Text: strconv.Itoa(k)}, api.Command{Name: 'b', Text: strconv.Itoa(99 - k), Place: 3i})
		jumps = append(jumps, 0, 2*(99-k))
	}
	check(t, l, told{jumps: jumps})
	l[0].Text = "no"
	check(t, l, told{p: 3i, e: api.ErrLabel})
}

// Deep and Files take more commands than a program may have.
func TestManyCommands(t *testing.T) {
	n := 1 << 16
	l := make([]api.Command, 2*n)
	for k := range l {
		l[k].Name = '{'
		if k >= n {
			l[k].Name = '}'
		}
	}
	for _, c := range []struct {
		l    []api.Command
		deep int
	}{{l, n}, {l[:n], n}, {l[n:], 0}, {l[n-1:], 1}, {l[n-300 : n+200], 300}, {slices.Concat(l[n:], l[:n]), n}, {slices.Repeat(l[n-1:n+1], 1000), 1}, {slices.Repeat(l[n-201:n+200], 50), 250}} {
		if got := program.Deep(c.l); got != c.deep {
			t.Errorf("Deep of %d commands: %d; want %d", len(c.l), got, c.deep)
		}
		checkLimit(t, c.l)
	}
	l = l[:2000]
	var want []string
	for k := range l {
		path := strconv.Itoa(1000 + k*7919%1000)
		l[k] = w(path)
		if k%3 == 0 {
			l[k] = s(path)
		}
		want = append(want, strconv.Itoa(1000+k%1000))
	}
	if got := program.Files(l); !slices.Equal(got, want[:1000]) {
		t.Errorf("Files of %d commands: %q", len(l), got)
	}
}

// A path may be any text here, as long as it likes.
func TestFilesOfAnyBytes(t *testing.T) {
	var l []api.Command
	var want []string
	for c := range 256 {
		path := string([]byte{byte(c)})
		l = append(l, w(path), s(path+path), s(path), w(path))
		want = append(want, path, path+path)
	}
	slices.Reverse(l)
	if got := program.Files(l); !slices.Equal(got, want) {
		t.Errorf("Files of all bytes: %q", got)
	}
	long := strings.Repeat("long/", 1<<16)
	if got := program.Files([]api.Command{w(long + "b"), s(long), w(long + "a"), s(long + "b")}); !slices.Equal(got, []string{long, long + "a", long + "b"}) {
		t.Errorf("Files of long paths: %d", len(got))
	}
}

// A pattern may be as deep as anything given may be.
func TestDeepPattern(t *testing.T) {
	n := api.Node{Kind: api.Begin}
	for k := range 1<<16 - 1 {
		n = api.Node{Kind: api.Group, Number: k, Kids: []api.Node{n}}
	}
	check(t, []api.Command{{Name: 's', Pattern: n, From: api.Address{Pattern: n}}}, told{jumps: []int{0}})
}
