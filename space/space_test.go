package space_test

import (
	"slices"
	"strings"
	"testing"

	"headgate/api"
	"headgate/space"
)

// xs is a text of n bytes that all are the same.
func xs(n int) string {
	return strings.Repeat("x", n)
}

// everyByte is a text of all bytes in order.
func everyByte() string {
	b := make([]byte, 256)
	for c := range b {
		b[c] = byte(c)
	}
	return string(b)
}

// Texts joined by hand.
func TestAppend(t *testing.T) {
	for _, c := range []struct{ a, b, want string }{
		{"", "", "\n"}, {"a", "", "a\n"}, {"", "b", "\nb"}, {"a", "b", "a\nb"}, {"ab", "cd", "ab\ncd"},
		{"a\n", "b", "a\n\nb"}, {"a", "\nb", "a\n\nb"}, {"\n", "\n", "\n\n\n"}, {"a\nb", "c\nd", "a\nb\nc\nd"},
		{"\x00", "\xff", "\x00\n\xff"}, {"é", "\r", "é\n\r"}, {"a ", " b", "a \n b"}, {"\\", "n", "\\\nn"},
		{everyByte(), everyByte(), everyByte() + "\n" + everyByte()},
	} {
		if s, e := space.Append(c.a, c.b); s != c.want || e != api.OK {
			t.Errorf("Append(%q, %q): %q, %v; want %q", c.a, c.b, s, e, c.want)
		}
	}
}

// A joined text has at most 1024 bytes, its line feed among them, however they are divided.
func TestAppendLimit(t *testing.T) {
	for size := 1020; size <= 1030; size++ {
		for first := range size {
			a, b := xs(first), strings.Repeat("y", size-1-first)
			s, e := space.Append(a, b)
			want, wrong := a+"\n"+b, api.OK
			if size > 1024 {
				want, wrong = "", api.ErrSpace
			}
			if s != want || e != wrong {
				t.Fatalf("Append of %d and %d bytes: %d bytes, %v", len(a), len(b), len(s), e)
			}
		}
	}
	for _, sizes := range [][2]int{{1024, 0}, {0, 1024}, {1024, 1024}, {512, 512}, {1 << 20, 0}, {0, 1 << 20}, {1 << 20, 1 << 20}, {1023, 1}, {1, 1023}, {1 << 16, 1 << 16}} {
		if s, e := space.Append(xs(sizes[0]), xs(sizes[1])); s != "" || e != api.ErrSpace {
			t.Errorf("Append of %v bytes: %d bytes, %v", sizes, len(s), e)
		}
	}
	feeds := strings.Repeat("\n", 1023)
	if s, e := space.Append(feeds, ""); s != feeds+"\n" || e != api.OK {
		t.Errorf("Append of line feeds: %d bytes, %v", len(s), e)
	}
}

// Texts divided by hand.
func TestFirst(t *testing.T) {
	for _, c := range []struct {
		s, first, rest string
		has            bool
	}{
		{"", "", "", false}, {"a", "a", "", false}, {"abc", "abc", "", false}, {"\r", "\r", "", false}, {`a\nb`, `a\nb`, "", false}, {"\x00\x0b\xff", "\x00\x0b\xff", "", false},
		{"\n", "", "", true}, {"\na", "", "a", true}, {"a\n", "a", "", true}, {"a\nb", "a", "b", true}, {"a\nb\nc", "a", "b\nc", true},
		{"\n\n", "", "\n", true}, {"\n\n\n", "", "\n\n", true}, {"a\n\n", "a", "\n", true}, {"\n\na", "", "\na", true}, {"a\n\nb", "a", "\nb", true}, {"a\nb\n", "a", "b\n", true},
		{"a\r\nb", "a\r", "b", true}, {"\x00\n\xff", "\x00", "\xff", true}, {"é\né", "é", "é", true}, {"a\\\nb", "a\\", "b", true},
		{everyByte(), everyByte()[:10], everyByte()[11:], true},
		{xs(5000), xs(5000), "", false}, {xs(5000) + "\n" + xs(6000), xs(5000), xs(6000), true},
	} {
		if first, rest, has := space.First(c.s); first != c.first || rest != c.rest || has != c.has {
			t.Errorf("First(%q): %q, %q, %v; want %q, %q, %v", c.s, first, rest, has, c.first, c.rest, c.has)
		}
	}
}

// Bytes replaced by hand.
func TestChange(t *testing.T) {
	for _, c := range []struct{ s, from, to, want string }{
		{"", "", "", ""}, {"", "a", "b", ""}, {"abc", "", "", "abc"}, {"abc", "", "xyz", "abc"},
		{"abc", "a", "x", "xbc"}, {"abc", "abc", "xyz", "xyz"}, {"abc", "cba", "xyz", "zyx"}, {"banana", "an", "un", "bununu"}, {"abc", "xyz", "abc", "abc"},
		// what a byte is replaced by is not replaced again
		{"ab", "ab", "ba", "ba"}, {"abcabc", "abc", "bca", "bcabca"}, {"aab", "ab", "bc", "bbc"},
		// of several indexes of a byte the first one counts
		{"a", "aa", "xy", "x"}, {"aba", "aba", "xyz", "xyx"}, {"abc", "abab", "xyzw", "xyc"}, {"a", "aaa", "xyz", "x"}, {"ab", "baa", "yxz", "xy"}, {"aa", "aa", "ax", "aa"}, {"b", "abab", "bcde", "c"},
		// to is shorter than from, or longer
		{"banana", "abn", "xy", "yxnxnx"}, {"abc", "abc", "", "abc"}, {"abc", "abc", "x", "xbc"}, {"abc", "abc", "xy", "xyc"}, {"abc", "bca", "xy", "axy"}, {"abc", "ab", "xyz", "xyc"}, {"abc", "a", "xyz", "xbc"}, {"a", "", "x", "a"},
		// to ends between two indexes of a byte, and ahead of both
		{"ab", "aba", "xy", "xy"}, {"ab", "baa", "yx", "xy"}, {"ab", "baa", "y", "ay"}, {"ab", "caa", "x", "ab"}, {"abc", "aabbcc", "xyz", "xzc"},
		// bytes are nothing but bytes
		{"a-c", "a-c", "xyz", "xyz"}, {"b", "a-c", "xyz", "b"}, {"^a", "^a", "12", "12"}, {`\n`, `\n`, "ab", "ab"}, {"\n", `\n`, "ab", "\n"}, {"a\nb", "\n", " ", "a b"}, {"a b", " ", "\n", "a\nb"},
		{"\x00\xff", "\xff\x00", "\x00\xff", "\xff\x00"}, {"\x80\x7f", "\x80", "\x00", "\x00\x7f"}, {"é", "é", "ab", "ab"}, {"ab", "ab", "é", "é"}, {"é", "\xc3", "e", "e\xa9"}, {"\x00", "\x00", "a", "a"}, {"a", "a", "\x00", "\x00"},
		{xs(3000), "x", "yz", strings.Repeat("y", 3000)},
	} {
		if s := space.Change(c.s, c.from, c.to); s != c.want {
			t.Errorf("Change(%q, %q, %q): %q; want %q", c.s, c.from, c.to, s, c.want)
		}
	}
}

// All bytes, turned round.
func TestChangeEveryByte(t *testing.T) {
	all := everyByte()
	b := []byte(all)
	slices.Reverse(b)
	round := string(b)
	for _, c := range []struct{ s, from, to, want string }{
		{all, all, round, round}, {round, all, round, all}, {all, round, all, round},
		{all, all, all, all}, {all, "", round, all}, {all, all, "", all},
		{all, all, round[:128], round[:128] + all[128:]}, {all, all[128:], all[:128], all[:128] + all[:128]},
		{all, all + all, round + all, round}, {all, all + all, all + round, all},
		{all, all, strings.Repeat("\n", 256), strings.Repeat("\n", 256)},
	} {
		if s := space.Change(c.s, c.from, c.to); s != c.want {
			t.Errorf("Change(%q, %q, %q): %q", c.s, c.from, c.to, s)
		}
	}
}

// Texts divided into lines by hand.
func TestLines(t *testing.T) {
	for _, c := range []struct {
		s    string
		want []string
	}{
		{"", nil}, {"\n", []string{""}}, {"\n\n", []string{"", ""}}, {"\n\n\n", []string{"", "", ""}},
		{"a", []string{"a"}}, {"a\n", []string{"a"}}, {"a\n\n", []string{"a", ""}}, {"\na", []string{"", "a"}}, {"\na\n", []string{"", "a"}}, {"\n\na", []string{"", "", "a"}},
		{"a\nb", []string{"a", "b"}}, {"a\nb\n", []string{"a", "b"}}, {"a\n\nb", []string{"a", "", "b"}}, {"a\n\n\nb\n\n", []string{"a", "", "", "b", ""}},
		{"a\r\nb\r", []string{"a\r", "b\r"}}, {"\x00\n\xff", []string{"\x00", "\xff"}}, {" \n ", []string{" ", " "}}, {"é\né\n", []string{"é", "é"}}, {`a\nb`, []string{`a\nb`}}, {"a\\\nb", []string{"a\\", "b"}}, {"\x0b\x0c\r\u0085\u2028", []string{"\x0b\x0c\r\u0085\u2028"}},
		{everyByte(), []string{everyByte()[:10], everyByte()[11:]}},
		{xs(3000) + "\n" + xs(4000), []string{xs(3000), xs(4000)}}, {xs(3000) + "\n", []string{xs(3000)}},
	} {
		if l := space.Lines(c.s); !slices.Equal(l, c.want) {
			t.Errorf("Lines(%q): %q; want %q", c.s, l, c.want)
		}
	}
}
