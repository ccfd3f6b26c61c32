package address_test

import (
	"math"
	"strconv"
	"strings"
	"testing"

	"headgate/address"
	"headgate/api"
)

// short is a command's addresses as a text.
func short(c api.Command) string {
	word := func(a api.Address) string {
		return strconv.Itoa(int(a.Kind)) + ":" + strconv.Itoa(a.Line)
	}
	return word(c.From) + "," + word(c.To) + " " + strconv.FormatBool(c.Not)
}

// ends are the least and the greatest numbers, and those about 0, and about where fewer bits would be too few.
func ends() []int {
	l := []int{-2, -1, 0, 1, 2, 3, 4}
	for _, n := range []int{math.MinInt, math.MaxInt, math.MinInt32, math.MaxInt32, math.MaxUint32, math.MaxInt16, math.MaxUint8, math.MaxInt8, 1 << 40, 1 << 53} {
		l = append(l, n)
		if n > math.MinInt {
			l = append(l, n-1)
		}
		if n < math.MaxInt {
			l = append(l, n+1)
		}
	}
	return l
}

// kinds are those that there are, and some that there aren't.
var kinds = []api.AddressKind{api.NoAddress, api.Line, api.Last, api.Pattern, api.Again, api.Again + 1, -1, math.MaxInt, math.MinInt}

// addresses are those of all kinds, with some numbers of lines.
func addresses(lines ...int) []api.Address {
	var l []api.Address
	for _, kind := range kinds {
		for _, line := range lines {
			l = append(l, api.Address{Kind: kind, Line: line})
		}
	}
	return l
}

// every does something with all commands of some addresses, in both states, at all looks with some numbers.
func every(lines, numbers []int, do func(c api.Command, open bool, x address.Look)) {
	for _, from := range addresses(lines...) {
		for _, to := range addresses(lines...) {
			for _, number := range numbers {
				for bits := range 32 {
					c := api.Command{From: from, To: to, Not: bits&1 != 0}
					do(c, bits&2 != 0, address.Look{Number: number, Last: bits&4 != 0, First: bits&8 != 0, Second: bits&16 != 0})
				}
			}
		}
	}
}

// All pairs of kinds in all states at all looks, with the numbers one below, one above and equal to each other.
func TestEvery(t *testing.T) {
	every([]int{0, 1, 2, 3, 4}, []int{1, 2, 3}, func(c api.Command, open bool, x address.Look) {
		checkTold(t, c, open, x)
	})
}

// The greatest and least numbers.
func TestNumbers(t *testing.T) {
	for _, kind := range []api.AddressKind{api.Line, api.Again} {
		for _, from := range ends() {
			for _, to := range ends() {
				for _, number := range ends() {
					for bits := range 8 {
						c := api.Command{From: api.Address{Kind: kind, Line: from}, To: api.Address{Kind: api.Line, Line: to}, Not: bits&1 != 0}
						checkTold(t, c, bits&2 != 0, address.Look{Number: number, First: bits&4 != 0})
						c.To.Kind = api.NoAddress
						checkTold(t, c, bits&2 != 0, address.Look{Number: number, First: bits&4 != 0})
					}
				}
			}
		}
	}
}

// P15.2 at the greatest numbers, told by hand.
func TestGreatLines(t *testing.T) {
	for _, c := range []struct {
		from, to, first int
		in              string
	}{
		{math.MaxInt, math.MaxInt, math.MaxInt - 2, "..x"},
		{math.MaxInt - 1, math.MaxInt, math.MaxInt - 2, ".xx"},
		{math.MaxInt - 1, 1, math.MaxInt - 2, ".x."},
		{1, math.MaxInt, 1, "xxxxxx"},
		{2, math.MaxInt, 1, ".xxxxx"},
		{2, math.MinInt, 1, ".x...."},
		{math.MaxInt, 1, 1, "......"},
		{math.MinInt, math.MaxInt, 1, "......"},
		{1 << 32, 1<<32 + 1, 1<<32 - 2, "..xx.."},
		{1<<32 + 1, 1 << 32, 1<<32 - 2, "...x.."},
		{1<<32 + 1, 1<<32 + 2, 1, "......"},
	} {
		open := false
		in := ""
		for k := range len(c.in) {
			var selected bool
			selected, open = address.Selects(api.Command{From: api.Address{Kind: api.Line, Line: c.from}, To: api.Address{Kind: api.Line, Line: c.to}}, open, address.Look{Number: c.first + k})
			in += mark(selected)
		}
		if in != c.in {
			t.Errorf("%d,%d from %d on: %s; want %s", c.from, c.to, c.first, in, c.in)
		}
	}
}

// P15.2: a range from one number to another one selects the lines from the first to the second, or the first alone.
func TestLineRanges(t *testing.T) {
	for n := range 12 {
		for from := range 14 {
			for to := range 14 {
				for _, marks := range []string{"", "xxxxxxxxxxxx", "x.x.x.x.x.x."} {
					words := strconv.Itoa(from) + "," + strconv.Itoa(to)
					in, _ := run(commandOf(words), n, marks, marks)
					last := max(from, to)
					for k := range n {
						if want := from > 0 && from <= k+1 && k+1 <= last; marked(in, k) != want {
							t.Fatalf("%s, of %d lines: %s", words, n, in)
						}
					}
					out, _ := run(commandOf(words+"!"), n, marks, marks)
					if strings.Map(func(r rune) rune { return 'x' + '.' - r }, out) != in {
						t.Fatalf("%s!, of %d lines: %s", words, n, out)
					}
				}
			}
		}
	}
}

// A long run: each line is selected or not by its number alone.
func TestLongRun(t *testing.T) {
	const n = 20000
	in, _ := run(commandOf("777,19000"), n, "", "")
	if in != strings.Repeat(".", 776)+strings.Repeat("x", 18224)+strings.Repeat(".", 1000) {
		t.Error("a long run is selected otherwise")
	}
}

// A pattern may be as deep as anything given may be, and nothing else of a command matters.
func TestOtherFields(t *testing.T) {
	deep := api.Node{Kind: api.Begin}
	for k := range 1<<16 - 1 {
		deep = api.Node{Kind: api.Group, Number: k, Kids: []api.Node{deep}}
	}
	full := api.Command{Place: complex(math.NaN(), math.Inf(1)), Name: '}', Text: "text", Other: "other", Pattern: deep, Again: true, Template: []api.Piece{{N: 1}}, Global: true, Print: true, Count: -1, File: "file"}
	every([]int{2}, []int{1, 2, 3}, func(c api.Command, open bool, x address.Look) {
		full.From, full.To, full.Not = c.From, c.To, c.Not
		full.From.Pattern, full.To.Pattern = deep, deep
		checkTold(t, full, open, x)
	})
}
