package address_test

import (
	"strconv"
	"strings"
	"testing"

	"headgate/address"
	"headgate/api"
)

// addressOf is the address of a word: a number, $ (the last line), / (a pattern), // (the one that was used last), or none.
func addressOf(word string) api.Address {
	switch word {
	case "":
		return api.Address{}
	case "$":
		return api.Address{Kind: api.Last}
	case "/":
		return api.Address{Kind: api.Pattern, Pattern: api.Node{Kind: api.Begin}}
	case "//":
		return api.Address{Kind: api.Again}
	}
	n, err := strconv.Atoi(word)
	if err != nil {
		panic(word)
	}
	return api.Address{Kind: api.Line, Line: n}
}

// commandOf is a command with the addresses of some words, as sed has them: 2,$! for instance.
func commandOf(words string) api.Command {
	words, not := strings.CutSuffix(words, "!")
	from, to, _ := strings.Cut(words, ",")
	return api.Command{Name: 'p', From: addressOf(from), To: addressOf(to), Not: not}
}

// run is what a command selects of the lines 1 to n: for each line x or a dot, and that of whether the range is open behind it. Of patterns an x stands for each line in which they match.
func run(c api.Command, n int, first, second string) (string, string) {
	in, state := "", ""
	open := false
	for k := range n {
		x := address.Look{Number: k + 1, Last: k == n-1, First: marked(first, k), Second: marked(second, k)}
		var selected bool
		selected, open = address.Selects(c, open, x)
		in += mark(selected)
		state += mark(open)
	}
	return in, state
}

func marked(marks string, k int) bool {
	return k < len(marks) && marks[k] == 'x'
}

func mark(b bool) string {
	if b {
		return "x"
	}
	return "."
}

// Runs of lines told by hand: what is selected, and whether the range is open behind each line.
func TestRuns(t *testing.T) {
	for _, c := range []struct{ words, first, second, in, open string }{
		// no address, or one alone
		{"", "", "", "xxxxxx", "......"},
		{"!", "", "", "......", "......"},
		{"1", "", "", "x.....", "......"},
		{"3", "", "", "..x...", "......"},
		{"3!", "", "", "xx.xxx", "......"},
		{"6", "", "", ".....x", "......"},
		{"7", "", "", "......", "......"},
		{"0", "", "", "......", "......"},
		{"-1", "", "", "......", "......"},
		{"$", "", "", ".....x", "......"},
		{"$!", "", "", "xxxxx.", "......"},
		{"$", "", "", "x", "."},
		{"/", ".xx..x", "x..xx.", ".xx..x", "......"},
		{"//", ".xx..x", "x..xx.", ".xx..x", "......"},
		{"/!", ".xx..x", "", "x..xx.", "......"},
		{"//!", ".xx..x", "", "x..xx.", "......"},
		{"/", "", "xxxxxx", "......", "......"},
		// from a line
		{"2,4", "", "", ".xxx..", ".xx..."},
		{"2,4!", "", "", "x...xx", ".xx..."},
		{"1,6", "", "", "xxxxxx", "xxxxx."},
		{"1,1", "", "", "x.....", "......"},
		{"3,3", "", "", "..x...", "......"},
		{"4,3", "", "", "...x..", "......"},
		{"4,2", "", "", "...x..", "......"},
		{"4,1", "", "", "...x..", "......"},
		{"4,0", "", "", "...x..", "......"},
		{"4,-4", "", "", "...x..", "......"},
		{"3,4", "", "", "..xx..", "..x..."},
		{"5,9", "", "", "....xx", "....xx"},
		{"7,9", "", "", "......", "......"},
		{"6,7", "", "", ".....x", ".....x"},
		{"0,3", "", "", "......", "......"},
		{"3,$", "", "", "..xxxx", "..xxx."},
		{"3,$!", "", "", "xx....", "..xxx."},
		{"6,$", "", "", ".....x", "......"},
		{"1,$", "", "", "x", "."},
		{"7,$", "", "", "......", "......"},
		{"2,/", "", "x.x.x.", ".xx...", ".x...."},
		{"2,/", "xxxxxx", "xx..x.", ".xxxx.", ".xxx.."},
		{"2,//", "", "xx..x.", ".xxxx.", ".xxx.."},
		{"2,/", "", "xx....", ".xxxxx", ".xxxxx"},
		{"6,/", "", "xxxxxx", ".....x", ".....x"},
		// from the last line
		{"$,1", "", "", ".....x", "......"},
		{"$,6", "", "", ".....x", "......"},
		{"$,7", "", "", ".....x", ".....x"},
		{"$,$", "", "", ".....x", "......"},
		{"$,/", "", "xxxxxx", ".....x", ".....x"},
		{"$,//!", "", "xxxxxx", "xxxxx.", ".....x"},
		// from a pattern
		{"/,3", "x....x", "", "xxx..x", "xx...."},
		{"/,3", "..x...", "", "..x...", "......"},
		{"/,3", "...x.x", "", "...x.x", "......"},
		{"/,3", ".xxxxx", "", ".xxxxx", ".x...."},
		{"/,$", "...x..", "", "...xxx", "...xx."},
		{"/,$", ".....x", "", ".....x", "......"},
		{"/,$", "", "xxxxxx", "......", "......"},
		{"/,/", ".x..x.", ".x.x.x", ".xxxxx", ".xx.x."},
		{"/,/", "xxxxxx", "xxxxxx", "xxxxxx", "x.x.x."},
		{"/,/!", "x...x.", ".x...x", "..xx..", "x...x."},
		{"/,//", "x...x.", ".x...x", "xx..xx", "x...x."},
		{"//,/", "x...x.", "x.....", "xxxxxx", "xxxxxx"},
		{"//,//", ".x.x.x", "x.x.x.", ".xxxxx", ".x.x.x"},
		{"//,5", ".x....", "xxxxxx", ".xxxx.", ".xxx.."},
		{"//,$", ".x....", "xxxxxx", ".xxxxx", ".xxxx."},
		{"/,/", "......", "xxxxxx", "......", "......"},
		{"/,9", ".x....", "xxxxxx", ".xxxxx", ".xxxxx"},
		// from no address: it always holds
		{",1", "", "", "xxxxxx", "......"},
		{",4", "", "", "xxxxxx", "xxx..."},
		{",$", "", "", "xxxxxx", "xxxxx."},
		{",/", "", "..x..x", "xxxxxx", "xx.xx."},
		{",//!", "", "x.xx..", "......", "xx.xxx"},
	} {
		in, open := run(commandOf(c.words), len(c.in), c.first, c.second)
		if in != c.in || open != c.open {
			t.Errorf("%s (%s, %s): %s, open %s; want %s, open %s", c.words, c.first, c.second, in, open, c.in, c.open)
		}
	}
}

// Looks told by hand, in states and at lines to which no run of all lines leads.
func TestLooks(t *testing.T) {
	for _, c := range []struct {
		words    string
		open     bool
		x        address.Look
		in, want bool
	}{
		// without a second address the state means nothing
		{"", true, address.Look{Number: 1}, true, false},
		{"!", true, address.Look{Number: 1}, false, false},
		{"3", true, address.Look{Number: 2}, false, false},
		{"3", true, address.Look{Number: 3}, true, false},
		{"3!", true, address.Look{Number: 4}, true, false},
		{"$", true, address.Look{Number: 3}, false, false},
		{"$", true, address.Look{Number: 3, Last: true}, true, false},
		{"/", true, address.Look{Number: 3, Second: true}, false, false},
		{"/", true, address.Look{Number: 3, First: true}, true, false},
		{"//!", true, address.Look{Number: 3, First: true}, false, false},
		// an open range goes over the number of its end
		{"2,4", true, address.Look{Number: 3}, true, true},
		{"2,4", true, address.Look{Number: 4}, true, false},
		{"2,4", true, address.Look{Number: 5}, true, false},
		{"2,4", true, address.Look{Number: 900}, true, false},
		{"2,4!", true, address.Look{Number: 5}, false, false},
		{"2,4", true, address.Look{Number: 1}, true, true},
		{"2,4", true, address.Look{Number: 2}, true, true},
		{"4,2", true, address.Look{Number: 1}, true, true},
		{"4,2", true, address.Look{Number: 4}, true, false},
		// one that isn't open begins with its first address alone
		{"2,4", false, address.Look{Number: 3}, false, false},
		{"2,4", false, address.Look{Number: 4}, false, false},
		{"2,4!", false, address.Look{Number: 3}, true, false},
		{"$,4", false, address.Look{Number: 3, Last: true}, true, true},
		{"$,4", false, address.Look{Number: 4, Last: true}, true, false},
		{"$,4", true, address.Look{Number: 3, Last: true}, true, true},
		{"$,$", true, address.Look{Number: 3}, true, true},
		{"$,$", true, address.Look{Number: 3, Last: true}, true, false},
		// the last line
		{"2,$", true, address.Look{Number: 1}, true, true},
		{"2,$", true, address.Look{Number: 1, Last: true}, true, false},
		{"2,$", false, address.Look{Number: 2, Last: true}, true, false},
		{"2,$", false, address.Look{Number: 2}, true, true},
		{"2,$", false, address.Look{Number: 3, Last: true}, false, false},
		{"2,9", true, address.Look{Number: 5, Last: true}, true, true},
		{"/,/", true, address.Look{Number: 5, Last: true}, true, true},
		// both patterns match, one, or none
		{"/,/", false, address.Look{Number: 5, First: true, Second: true}, true, true},
		{"/,/", false, address.Look{Number: 5, First: true}, true, true},
		{"/,/", false, address.Look{Number: 5, Second: true}, false, false},
		{"/,/", false, address.Look{Number: 5}, false, false},
		{"/,/", true, address.Look{Number: 5, First: true, Second: true}, true, false},
		{"/,/", true, address.Look{Number: 5, First: true}, true, true},
		{"/,/", true, address.Look{Number: 5, Second: true}, true, false},
		{"/,/", true, address.Look{Number: 5}, true, true},
		// patterns that match mean nothing to lines
		{"2,4", false, address.Look{Number: 1, First: true, Second: true}, false, false},
		{"2,4", true, address.Look{Number: 3, First: true, Second: true}, true, true},
		{"2,$", true, address.Look{Number: 3, First: true, Second: true}, true, true},
		{"$", false, address.Look{Number: 3, First: true, Second: true}, false, false},
	} {
		in, open := address.Selects(commandOf(c.words), c.open, c.x)
		if in != c.in || open != c.want {
			t.Errorf("%s, %v, %+v: %v, %v; want %v, %v", c.words, c.open, c.x, in, open, c.in, c.want)
		}
	}
}

// What is needed, told by hand: the first and the second pattern, of a range that is not open, and of one that is.
func TestNeeds(t *testing.T) {
	for words, want := range map[string]string{
		"": ".. ..", "3": ".. ..", "$": ".. ..", "/": "x. x.", "//": "x. x.",
		",3": ".. ..", ",$": ".. ..", ",/": ".. .x", ",//": ".. .x",
		"3,3": ".. ..", "3,$": ".. ..", "3,/": ".. .x", "3,//": ".. .x",
		"$,3": ".. ..", "$,$": ".. ..", "$,/": ".. .x", "$,//": ".. .x",
		"/,3": "x. ..", "/,$": "x. ..", "/,/": "x. .x", "/,//": "x. .x",
		"//,3": "x. ..", "//,$": "x. ..", "//,/": "x. .x", "//,//": "x. .x",
	} {
		for _, not := range []string{"", "!"} {
			c := commandOf(words + not)
			first, second := address.Needs(c, false)
			openFirst, openSecond := address.Needs(c, true)
			if got := mark(first) + mark(second) + " " + mark(openFirst) + mark(openSecond); got != want {
				t.Errorf("%s: %s; want %s", words+not, got, want)
			}
		}
	}
}
