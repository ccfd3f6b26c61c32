package token_test

import (
	"math"
	"strconv"
	"strings"
	"testing"

	"headgate/api"
	"headgate/token"
)

// outside are numbers that are no index of a text of some length.
func outside(size int) []int {
	return []int{-1, -2, -9, -1000, math.MinInt32, math.MinInt + 1, math.MinInt, size + 1, size + 2, size + 9, size + 1000, math.MaxInt32, math.MaxInt - 1, math.MaxInt}
}

// P12.1: blanks.
func TestBlanks(t *testing.T) {
	for _, c := range []struct {
		text string
		at   int
		want int
	}{
		{"", 0, 0}, {"x", 0, 0}, {"x", 1, 1}, {" ", 0, 1}, {" ", 1, 1}, {"\t", 0, 1}, {" x", 0, 1}, {" x", 1, 1}, {"x ", 0, 0}, {"x ", 1, 2}, {"x x", 1, 2},
		{"   x", 0, 3}, {"   x", 1, 3}, {"   x", 2, 3}, {"   x", 3, 3}, {"   x", 4, 4}, {"   ", 0, 3}, {"   ", 2, 3}, {"   ", 3, 3}, {"\t\t", 0, 2}, {" \t \t\t x", 0, 6}, {"a \t b \t c", 4, 4}, {"a \t b \t c", 5, 8},
		{"\n ", 0, 0}, {" \n ", 0, 1}, {" \r ", 0, 1}, {" \v ", 0, 1}, {" \f ", 0, 1}, {" \x00 ", 0, 1}, {" ; ", 0, 1}, {" \xa0 ", 0, 1}, {" \x85 ", 0, 1}, {"\u00a0 ", 0, 0}, {" \xff", 0, 1},
		{"p ;  q", 2, 2}, {"p ;  q", 3, 5}, {strings.Repeat(" ", 3000), 0, 3000}, {strings.Repeat("\t", 3000) + "x", 1500, 3000},
	} {
		checkBlanks(t, c.text, c.at, c.want)
	}
	for _, text := range []string{"", " ", "x", "   ", "a b", "\t\t"} {
		for _, at := range outside(len(text)) {
			checkBlanks(t, text, at, at)
		}
	}
}

// Two bytes are blanks, and no other one.
func TestBlankBytes(t *testing.T) {
	for c := range 256 {
		s := string([]byte{byte(c)})
		is := 0
		if c == 32 || c == 9 {
			is = 1
		}
		checkBlanks(t, s, 0, is)
		checkBlanks(t, " "+s, 0, 1+is)
		checkBlanks(t, s+"x", 0, is)
		checkBlanks(t, s, 1, 1)
	}
}

// P12.1: numbers.
func TestNumber(t *testing.T) {
	for _, c := range []struct {
		text string
		at   int
		want number
	}{
		{"", 0, number{0, 0, false}}, {"x", 0, number{0, 0, false}}, {"x", 1, number{0, 1, false}}, {" 1", 0, number{0, 0, false}}, {" 1", 1, number{1, 2, true}}, {"-1", 0, number{0, 0, false}}, {"+1", 0, number{0, 0, false}}, {"-1", 1, number{1, 2, true}}, {"\n1", 0, number{0, 0, false}}, {"1", 1, number{0, 1, false}},
		{"0", 0, number{0, 1, true}}, {"1", 0, number{1, 1, true}}, {"7", 0, number{7, 1, true}}, {"9", 0, number{9, 1, true}}, {"7x", 0, number{7, 1, true}}, {"x7", 1, number{7, 2, true}}, {"x7x", 1, number{7, 2, true}}, {"10", 0, number{10, 2, true}}, {"10", 1, number{0, 2, true}}, {"42,43p", 0, number{42, 2, true}}, {"42,43p", 3, number{43, 5, true}}, {"42,43p", 2, number{0, 2, false}}, {"1 2", 0, number{1, 1, true}}, {"1_000", 0, number{1, 1, true}}, {"1e3", 0, number{1, 1, true}}, {"0x10", 0, number{0, 1, true}}, {"1.5", 0, number{1, 1, true}},
		{"12345678", 0, number{12345678, 8, true}}, {"123456789", 0, number{123456789, 9, true}}, {"123456789p", 0, number{123456789, 9, true}}, {"999999999", 0, number{999999999, 9, true}}, {"100000000", 0, number{100000000, 9, true}}, {"a123456789", 1, number{123456789, 10, true}},
		{"1234567890", 0, number{0, 0, false}}, {"1234567890p", 0, number{0, 0, false}}, {"x1234567890", 1, number{0, 1, false}}, {"1234567890", 1, number{234567890, 10, true}}, {"1000000000", 0, number{0, 0, false}}, {"9999999999", 0, number{0, 0, false}}, {"12345678901", 0, number{0, 0, false}}, {"12345678901", 2, number{345678901, 11, true}}, {"18446744073709551617", 0, number{0, 0, false}}, {"99999999999999999999999999", 0, number{0, 0, false}},
		{"00", 0, number{0, 2, true}}, {"01", 0, number{1, 2, true}}, {"007p", 0, number{7, 3, true}}, {"000000000", 0, number{0, 9, true}}, {"000000001", 0, number{1, 9, true}}, {"0000000001", 0, number{0, 0, false}}, {"0000000000", 0, number{0, 0, false}}, {"0000000001", 1, number{1, 10, true}}, {"010", 0, number{10, 3, true}},
		{"1\x00", 0, number{1, 1, true}}, {"1\xb2", 0, number{1, 1, true}}, {"\xb2", 0, number{0, 0, false}}, {"١", 0, number{0, 0, false}}, {"５", 0, number{0, 0, false}},
	} {
		checkNumber(t, c.text, c.at, c.want)
	}
	for _, text := range []string{"", "1", "123", "x", "1234567890"} {
		for _, at := range outside(len(text)) {
			checkNumber(t, text, at, number{0, at, false})
		}
	}
}

// Ten bytes are digits, and no other one.
func TestNumberBytes(t *testing.T) {
	for c := range 256 {
		s := string([]byte{byte(c)})
		want, more := number{0, 0, false}, number{4, 1, true}
		if c >= 48 && c <= 57 {
			want, more = number{c - 48, 1, true}, number{40 + c - 48, 2, true}
		}
		checkNumber(t, s, 0, want)
		checkNumber(t, "4"+s, 0, more)
	}
}

// Each number of digits, and each number of noughts ahead of others.
func TestNumberSizes(t *testing.T) {
	for size := range 40 {
		for noughts := range size + 1 {
			text := strings.Repeat("0", noughts) + strings.Repeat("8", size-noughts)
			want := number{0, 1, false}
			if size >= 1 && size <= 9 {
				n, _ := strconv.Atoi(text)
				want = number{n, 1 + size, true}
			}
			checkNumber(t, "x"+text, 1, want)
			checkNumber(t, "x"+text+"x", 1, want)
			checkNumber(t, "1"+text, 1, want)
		}
	}
}

// P12.1: what is cut.
func TestCut(t *testing.T) {
	for _, c := range []struct {
		text  string
		at    int
		delim byte
		want  string
		to    int
	}{
		{"/", 0, '/', "", 1}, {"//", 0, '/', "", 1}, {"//", 1, '/', "", 2}, {"a/", 0, '/', "a", 2}, {"a/", 1, '/', "", 2}, {"ab/c", 0, '/', "ab", 3}, {"ab/c", 1, '/', "b", 3}, {"ab/cd/e", 0, '/', "ab", 3}, {"ab/cd/e", 3, '/', "cd", 6}, {"/ab/c", 0, '/', "", 1}, {"/ab/c", 1, '/', "ab", 4}, {" a b /", 0, '/', " a b ", 6}, {"a;b#c}/", 0, '/', "a;b#c}", 7},
		{`a\/b/`, 0, '/', "a/b", 5}, {`\//`, 0, '/', "/", 3}, {`\/\//`, 0, '/', "//", 5}, {`a\/b/`, 2, '/', "", 3}, {`\/a/b/`, 0, '/', "/a", 4},
		{`a\nb/`, 0, '/', `a\nb`, 5}, {`\./`, 0, '/', `\.`, 3}, {`\;/`, 0, '/', `\;`, 3}, {`\ /`, 0, '/', `\ `, 3}, {`\(a\)\1/`, 0, '/', `\(a\)\1`, 8}, {`\a\b\c/`, 0, '/', `\a\b\c`, 7},
		{`\\/`, 0, '/', `\\`, 3}, {`a\\/b/`, 0, '/', `a\\`, 4}, {`\\\//`, 0, '/', `\\/`, 5}, {`\\\\/`, 0, '/', `\\\\`, 5}, {`\\a/`, 0, '/', `\\a`, 4}, {`\\\a/`, 0, '/', `\\\a`, 5}, {`\\/`, 1, '/', "", 0}, {`\\//`, 1, '/', "/", 4}, {`\\/`, 2, '/', "", 3},
		{"a,b", 0, ',', "a", 2}, {`a\,b/,`, 0, ',', "a,b/", 6}, {`a\/b,`, 0, ',', `a\/b`, 5}, {"a/b", 0, 'b', "a/", 3}, {`a\bcb`, 0, 'b', "abc", 5}, {`\n/n`, 0, 'n', "n/", 4}, {"aXb", 0, 'X', "a", 2}, {"a1b", 0, '1', "a", 2}, {`\1\21`, 0, '1', `1\2`, 5}, {"a b", 0, ' ', "a", 2}, {`a\ b `, 0, ' ', "a b", 5}, {"a\tb", 0, '\t', "a", 2}, {"a.b", 0, '.', "a", 2}, {"a&b", 0, '&', "a", 2}, {"a;b", 0, ';', "a", 2}, {"a\rb", 0, '\r', "a", 2},
		{"a\x00b", 0, 0, "a", 2}, {"a\\\x00b\x00", 0, 0, "a\x00b", 5}, {"\x00/", 0, '/', "\x00", 2}, {"\\\x00/", 0, '/', "\\\x00", 3}, {"a\x80b", 0, 0x80, "a", 2}, {"a\xffb", 0, 0xff, "a", 2}, {"a\\\xffb\xff", 0, 0xff, "a\xffb", 5}, {"\x80\xff/", 0, '/', "\x80\xff", 3}, {"\\\x80\\\xff/", 0, '/', "\\\x80\\\xff", 5}, {"é/", 0, '/', "é", 3}, {"é", 0, 0xa9, "\xc3", 2}, {"é", 0, 0xc3, "", 1},
		{"a/\n", 0, '/', "a", 2}, {"a/\\", 0, '/', "a", 2}, {"\na/", 1, '/', "a", 3}, {"\\a/", 1, '/', "a", 3}, {"\\/a/", 1, '/', "", 2},
	} {
		want := cutting{c.want, c.to, api.OK}
		if c.to == 0 {
			want.e = api.ErrToken
		}
		checkCut(t, c.text, c.at, c.delim, false, want)
		checkCut(t, c.text, c.at, c.delim, true, want)
	}
}

// P12.1: a line feed behind a \ may be cut with lines alone.
func TestCutLines(t *testing.T) {
	for _, c := range []struct {
		text  string
		delim byte
		want  string
		to    int
	}{
		{"a\\\nb/", '/', "a\\\nb", 5}, {"\\\n/", '/', "\\\n", 3}, {"\\\n\\\n/", '/', "\\\n\\\n", 5}, {"\\\n\\//", '/', "\\\n/", 5}, {"\\\\\\\n/", '/', "\\\\\\\n", 5}, {"a\\\nb,c/", ',', "a\\\nb", 5}, {"\\\n\x00", 0, "\\\n", 3}, {"\\\n\xff", 0xff, "\\\n", 3}, {"\\\nn", 'n', "\\\n", 3},
	} {
		checkCut(t, c.text, 0, c.delim, true, cutting{c.want, c.to, api.OK})
		checkCut(t, c.text, 0, c.delim, false, cutting{e: api.ErrToken})
		// A line feed behind the delimiter is none of what is cut.
		checkCut(t, "/"+c.text, 0, '/', false, cutting{"", 1, api.OK})
	}
}

// P12.1: what is not cut.
func TestCutNothing(t *testing.T) {
	for _, both := range []bool{false, true} {
		for _, c := range []struct {
			text  string
			delim byte
		}{
			{"", '/'}, {"a", '/'}, {"ab,", '/'}, {`\/`, '/'}, {`a\/b`, '/'}, {`\`, '/'}, {`a\`, '/'}, {`\\`, '/'}, {`\\\`, '/'}, {`\\\/`, '/'}, {`a\/\`, '/'}, {`\n`, 'n'}, {"\\\x00", 0}, {"\\\xff", 0xff}, {"A", 'a'}, {"0", 0}, {"\x7f", 0xff}, {"\u00ff", 0xff}, {"a\\\nb", '/'}, {"\\\n", '/'},
			{"\n", '/'}, {"\n/", '/'}, {"a\n/", '/'}, {"a\nb/", '/'}, {"\\\\\n/", '/'}, {"\\/\n/", '/'}, {"\\\n\n/", '/'}, {"\\n\n/", '/'}, {"\n\\\n/", '/'},
			{"a\nb\n", '\n'}, {"\n", '\n'}, {"\\\n\n", '\n'}, {"", '\n'}, {"a/", '\n'}, {`a\`, '\\'}, {`\`, '\\'}, {`\\`, '\\'}, {`\\\`, '\\'}, {`a\b\`, '\\'}, {"", '\\'}, {"a/", '\\'},
		} {
			for at := range len(c.text) + 1 {
				if at == 0 || c.delim == '\n' || c.delim == '\\' {
					checkCut(t, c.text, at, c.delim, both, cutting{e: api.ErrToken})
				}
			}
		}
		for _, text := range []string{"", "/", "a/", "///", `\//`} {
			checkCut(t, text, len(text), '/', both, cutting{e: api.ErrToken})
			for _, at := range outside(len(text)) {
				checkCut(t, text, at, '/', both, cutting{e: api.ErrToken})
				checkCut(t, text, at, '\\', both, cutting{e: api.ErrToken})
			}
		}
	}
}

// Each byte as the delimiter, alone and behind a \.
func TestDelimiters(t *testing.T) {
	for c := range 256 {
		s, other := string([]byte{byte(c)}), "."
		if c == '.' {
			other = ","
		}
		alone, behind := cutting{other, 2, api.OK}, cutting{other + s + other, 5, api.OK}
		if c == '\n' || c == '\\' {
			alone, behind = cutting{e: api.ErrToken}, cutting{e: api.ErrToken}
		}
		for _, lines := range []bool{false, true} {
			checkCut(t, other+s+other, 0, byte(c), lines, alone)
			checkCut(t, other+`\`+s+other+s, 0, byte(c), lines, behind)
		}
	}
}

// Each byte within what is cut, alone and behind a \.
func TestCutBytes(t *testing.T) {
	for c := range 256 {
		s := string([]byte{byte(c)})
		for _, lines := range []bool{false, true} {
			alone, behind := cutting{"." + s + ".", 4, api.OK}, cutting{`.\` + s + ".", 5, api.OK}
			switch {
			case c == '/':
				alone, behind = cutting{".", 2, api.OK}, cutting{"./.", 5, api.OK}
			case c == '\n' && lines:
				alone = cutting{e: api.ErrToken}
			case c == '\n':
				alone, behind = cutting{e: api.ErrToken}, cutting{e: api.ErrToken}
			}
			checkCut(t, "."+s+"./", 0, '/', lines, alone)
			checkCut(t, `.\`+s+"./", 0, '/', lines, behind)
		}
	}
}

// P12.1: words, and the rests of lines.
func TestWordAndRest(t *testing.T) {
	for _, c := range []struct {
		text string
		at   int
		word extent
		rest extent
	}{
		{"", 0, extent{"", 0}, extent{"", 0}}, {"x", 0, extent{"x", 1}, extent{"x", 1}}, {"x", 1, extent{"", 1}, extent{"", 1}}, {"end", 0, extent{"end", 3}, extent{"end", 3}}, {"end", 1, extent{"nd", 3}, extent{"nd", 3}},
		{" end", 0, extent{"end", 4}, extent{"end", 4}}, {"\t end", 0, extent{"end", 5}, extent{"end", 5}}, {"end ", 0, extent{"end", 4}, extent{"end", 4}}, {"end \t ", 0, extent{"end", 6}, extent{"end", 6}}, {" \tend\t ", 0, extent{"end", 7}, extent{"end", 7}}, {" a ", 2, extent{"", 3}, extent{"", 3}}, {" a ", 1, extent{"a", 3}, extent{"a", 3}},
		{"a b", 0, extent{"a b", 3}, extent{"a b", 3}}, {" a \t b c ", 0, extent{"a \t b c", 9}, extent{"a \t b c", 9}}, {"a  b", 1, extent{"b", 4}, extent{"b", 4}},
		{" ", 0, extent{"", 1}, extent{"", 1}}, {" \t ", 0, extent{"", 3}, extent{"", 3}}, {" \t ", 1, extent{"", 3}, extent{"", 3}}, {"  \n", 0, extent{"", 2}, extent{"", 2}}, {"  ;", 0, extent{"", 2}, extent{";", 3}}, {"  ;  ", 0, extent{"", 2}, extent{";", 5}},
		{"\n", 0, extent{"", 0}, extent{"", 0}}, {"\nx", 0, extent{"", 0}, extent{"", 0}}, {"\nx", 1, extent{"x", 2}, extent{"x", 2}}, {";", 0, extent{"", 0}, extent{";", 1}}, {";x", 0, extent{"", 0}, extent{";x", 2}}, {"; x ;", 0, extent{"", 0}, extent{"; x ;", 5}},
		{"end;p", 0, extent{"end", 3}, extent{"end;p", 5}}, {"end\np", 0, extent{"end", 3}, extent{"end", 3}}, {"end ;p", 0, extent{"end", 4}, extent{"end ;p", 6}}, {"end \np", 0, extent{"end", 4}, extent{"end", 4}}, {"a;b\nc;d", 0, extent{"a", 1}, extent{"a;b", 3}}, {"a\nb;c", 0, extent{"a", 1}, extent{"a", 1}}, {"end;", 0, extent{"end", 3}, extent{"end;", 4}}, {"end\n", 0, extent{"end", 3}, extent{"end", 3}}, {"a;;b", 0, extent{"a", 1}, extent{"a;;b", 4}}, {"a\n\nb", 0, extent{"a", 1}, extent{"a", 1}}, {" a b ;c\np", 0, extent{"a b", 5}, extent{"a b ;c", 7}}, {"a ; \nb", 0, extent{"a", 2}, extent{"a ;", 4}},
		{"a}b", 0, extent{"a}b", 3}, extent{"a}b", 3}}, {"a#b", 0, extent{"a#b", 3}, extent{"a#b", 3}}, {`a\;b`, 0, extent{`a\`, 2}, extent{`a\;b`, 4}}, {"a\\\nb", 0, extent{`a\`, 2}, extent{`a\`, 2}}, {`a\`, 0, extent{`a\`, 2}, extent{`a\`, 2}}, {"a:b,c", 0, extent{"a:b,c", 5}, extent{"a:b,c", 5}},
		{"\x00", 0, extent{"\x00", 1}, extent{"\x00", 1}}, {" \x80\xff ", 0, extent{"\x80\xff", 4}, extent{"\x80\xff", 4}}, {"\r\n", 0, extent{"\r", 1}, extent{"\r", 1}}, {"\v a\f", 0, extent{"\v a\f", 4}, extent{"\v a\f", 4}}, {"\u00a0a\u00a0", 0, extent{"\u00a0a\u00a0", 5}, extent{"\u00a0a\u00a0", 5}}, {" \x00 ", 0, extent{"\x00", 3}, extent{"\x00", 3}}, {"\x85a\xa0", 0, extent{"\x85a\xa0", 3}, extent{"\x85a\xa0", 3}}, {"é;", 0, extent{"é", 2}, extent{"é;", 3}},
		{"p \n q ;r", 1, extent{"", 2}, extent{"", 2}}, {"p \n q ;r", 2, extent{"", 2}, extent{"", 2}}, {"p \n q ;r", 3, extent{"q", 6}, extent{"q ;r", 8}},
	} {
		checkWord(t, c.text, c.at, c.word)
		checkRest(t, c.text, c.at, c.rest)
	}
	for _, text := range []string{"", "a", " ", "\n", ";", "a b;c\nd"} {
		for _, at := range outside(len(text)) {
			checkWord(t, text, at, extent{"", at})
			checkRest(t, text, at, extent{"", at})
		}
	}
}

// Each byte by itself, and within, ahead of and behind a word.
func TestWordBytes(t *testing.T) {
	for c := range 256 {
		s := string([]byte{byte(c)})
		word, within, ahead, behind := extent{s, 1}, extent{"a" + s + "b", 3}, extent{s + "b", 2}, extent{"a" + s, 2}
		switch c {
		case ' ', '\t':
			word.text, ahead.text, behind.text = "", "b", "a"
		case '\n', ';':
			word, within, ahead, behind = extent{"", 0}, extent{"a", 1}, extent{"", 0}, extent{"a", 1}
		}
		checkWord(t, s, 0, word)
		checkWord(t, "a"+s+"b", 0, within)
		checkWord(t, s+"b", 0, ahead)
		checkWord(t, "a"+s, 0, behind)
		if c == ';' {
			word, within, ahead, behind = extent{";", 1}, extent{"a;b", 3}, extent{";b", 2}, extent{"a;", 2}
		}
		checkRest(t, s, 0, word)
		checkRest(t, "a"+s+"b", 0, within)
		checkRest(t, s+"b", 0, ahead)
		checkRest(t, "a"+s, 0, behind)
	}
}

// P12.1: lines.
func TestLines(t *testing.T) {
	for _, c := range []struct {
		text string
		at   int
		want string
		to   int
	}{
		{"\\\n", 0, "\n", 2}, {"\\\n\n", 0, "\n", 2}, {"\\\n\n\n", 0, "\n", 2}, {"\\\none", 0, "one\n", 5}, {"\\\none\n", 0, "one\n", 5}, {"\\\none\np", 0, "one\n", 5}, {"\\\n one ", 0, " one \n", 7}, {"\\\n\tone", 0, "\tone\n", 6}, {"\\\na;b}c#d", 0, "a;b}c#d\n", 9},
		{" \\\none", 0, "one\n", 6}, {"\t \\\none", 0, "one\n", 7}, {" \t\t \\\none", 0, "one\n", 9}, {" \\\none", 1, "one\n", 6}, {"a\\\none", 1, "one\n", 6}, {"a \\\none\np", 1, "one\n", 7}, {"a \\\none\np", 2, "one\n", 7},
		{"\\\none\\\ntwo", 0, "one\ntwo\n", 10}, {"\\\none\\\ntwo\np", 0, "one\ntwo\n", 10}, {"\\\n\\\n", 0, "\n\n", 4}, {"\\\n\\\n\n", 0, "\n\n", 4}, {"\\\n\\\n\\\n", 0, "\n\n\n", 6}, {"\\\none\\\n\ntwo", 0, "one\n\n", 7}, {"\\\none\ntwo\\\nx", 0, "one\n", 5}, {"x\\\ny\\\nz", 4, "z\n", 7}, {"x\\\ny\\\nz", 1, "y\nz\n", 7},
		{"\\\n\\x", 0, "x\n", 4}, {"\\\none\\x", 0, "onex\n", 7}, {"\\\n\\t\\n\\1\\&", 0, "tn1&\n", 10}, {"\\\n\\  a", 0, "  a\n", 6}, {"\\\na\\;b", 0, "a;b\n", 6}, {"\\\n\\\\", 0, "\\\n", 4}, {"\\\na\\\\b", 0, "a\\b\n", 6}, {"\\\n\\\\\\\\", 0, "\\\\\n", 6}, {"\\\n\\\\\np", 0, "\\\n", 4}, {"\\\n\\\\\\\np", 0, "\\\np\n", 7}, {"\\\na\\\\n", 0, "a\\n\n", 6},
		{"\\\n\x00\x80\xff", 0, "\x00\x80\xff\n", 5}, {"\\\n\\\x00\\\x80\\\xff", 0, "\x00\x80\xff\n", 8}, {"\\\né", 0, "é\n", 4}, {"\\\n\r\n", 0, "\r\n", 3},
		{"\\\na\nb\\", 0, "a\n", 3}, {"\\\n\n\\", 0, "\n", 2}, {"\n\\\na", 1, "a\n", 4},
	} {
		checkLines(t, c.text, c.at, cutting{c.want, c.to, api.OK})
	}
}

// P12.1: what are no lines.
func TestNoLines(t *testing.T) {
	for _, text := range []string{"", " ", "\t \t", "one", " one", "one\\\n", "\n", "\n\\\n", " \n\\\n", "\\", " \\", "\\x", "\\ \n", "\\\t\nx", "\\\\\n", "\\\\", "\\\r\n", "/\n", "\x00\\\n", "\xff\\\n", "\v\\\n", "\r\\\n", ";\\\n", "\xa0\\\n", "\\n", "\\\n\\", "\\\none\\", " \\\none\\", "\\\n\\\n\\", "\\\n\\\\\\", "\\\na\\x\\", "\\\n\x00\\", "\\\n \\"} {
		checkLines(t, text, 0, cutting{e: api.ErrToken})
		checkLines(t, "a"+text, 1, cutting{e: api.ErrToken})
	}
	checkLines(t, "\\\none", 1, cutting{e: api.ErrToken})
	checkLines(t, "\\\none", 2, cutting{e: api.ErrToken})
	for _, text := range []string{"", "\\\n", " \\\none", "\\\n\\", "  "} {
		checkLines(t, text, len(text), cutting{e: api.ErrToken})
		for _, at := range outside(len(text)) {
			checkLines(t, text, at, cutting{e: api.ErrToken})
		}
	}
}

// Each byte of lines, with a \ ahead and without, and in place of each of the two that they begin with.
func TestLinesBytes(t *testing.T) {
	for c := range 256 {
		s := string([]byte{byte(c)})
		plain := cutting{"a" + s + "b\n", 5, api.OK}
		switch c {
		case '\n':
			plain = cutting{"a\n", 3, api.OK}
		case '\\':
			plain = cutting{"ab\n", 5, api.OK}
		}
		checkLines(t, "\\\na"+s+"b", 0, plain)
		checkLines(t, "\\\na\\"+s+"b", 0, cutting{"a" + s + "b\n", 6, api.OK})
		begins := cutting{e: api.ErrToken}
		if c == '\\' {
			begins = cutting{"b\n", 3, api.OK}
		}
		checkLines(t, s+"\nb", 0, begins)
		follows := cutting{e: api.ErrToken}
		if c == '\n' {
			follows = cutting{"b\n", 3, api.OK}
		}
		checkLines(t, "\\"+s+"b", 0, follows)
		ahead := cutting{e: api.ErrToken}
		if c == ' ' || c == '\t' {
			ahead = cutting{"b\n", 4, api.OK}
		}
		checkLines(t, s+"\\\nb", 0, ahead)
	}
}

// What the calls answer one behind the other, as whoever reads a script asks them.
func TestTogether(t *testing.T) {
	const text = "  12,34 s/a\\/b/c\\\nd/2w  out put \nb end ;a \\\n one\\\ntwo\n"
	at := token.Blanks(text, 0)
	n, at, ok := token.Number(text, at)
	if n != 12 || at != 4 || !ok {
		t.Fatalf("the first number: %d, %d, %v", n, at, ok)
	}
	n, at, ok = token.Number(text, at+1)
	if n != 34 || at != 7 || !ok {
		t.Fatalf("the second number: %d, %d, %v", n, at, ok)
	}
	at = token.Blanks(text, at)
	s, at, e := token.Cut(text, at+2, text[at+1], false)
	if s != "a/b" || at != 15 || e != api.OK {
		t.Fatalf("the pattern: %q, %d, %v", s, at, e)
	}
	s, at, e = token.Cut(text, at, '/', true)
	if s != "c\\\nd" || at != 20 || e != api.OK {
		t.Fatalf("the template: %q, %d, %v", s, at, e)
	}
	n, at, ok = token.Number(text, at)
	if n != 2 || at != 21 || !ok {
		t.Fatalf("the count: %d, %d, %v", n, at, ok)
	}
	s, at = token.Rest(text, at+1)
	if s != "out put" || at != 32 {
		t.Fatalf("the file: %q, %d", s, at)
	}
	s, at = token.Word(text, at+2)
	if s != "end" || at != 39 {
		t.Fatalf("the label: %q, %d", s, at)
	}
	s, at, e = token.Lines(text, at+2)
	if s != " one\ntwo\n" || at != len(text)-1 || e != api.OK {
		t.Fatalf("the lines: %q, %d, %v", s, at, e)
	}
}
