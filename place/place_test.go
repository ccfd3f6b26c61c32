package place

import (
	"math"
	"strings"
	"testing"

	"headgate/api"
)

var (
	nan      = math.NaN()
	inf      = math.Inf(1)
	minus0   = math.Copysign(0, -1)
	otherNaN = math.Float64frombits(0xfff8000000000123) // a NaN with a sign and bits of its own
)

// odd are the numbers that a place's parts may be against all expectation.
func odd() []float64 {
	return []float64{
		nan, otherNaN, -inf, inf, minus0, 0, 1, 2, 3, -1, 0.5, 1.5,
		math.SmallestNonzeroFloat64, math.MaxFloat64, -math.MaxFloat64,
		1<<53 - 1, 1 << 53, 1<<53 + 2, 1 << 62, 1 << 63, 1 << 64,
	}
}

// texts are all texts of at most n bytes of an alphabet, shorter ones first.
func texts(alphabet string, n int) []string {
	all := []string{""}
	for from := 0; n > 0; n-- {
		to := len(all)
		for ; from < to; from++ {
			for k := range len(alphabet) {
				all = append(all, all[from]+alphabet[k:k+1])
			}
		}
	}
	return all
}

// told is the place of an index as the document's words tell it, by the library's means.
func told(text string, n int) complex128 {
	before := text[:n]
	return complex(float64(1+strings.Count(before, "\n")), float64(n-strings.LastIndex(before, "\n")))
}

func TestAt(t *testing.T) {
	for _, c := range []struct {
		text string
		n    int
		want complex128
	}{
		{"", 0, 1 + 1i},
		{"a", 0, 1 + 1i},
		{"a", 1, 1 + 2i},
		{"ab\ncd", 4, 2 + 2i},
		{"ab\ncd", 2, 1 + 3i}, // the line feed itself
		{"ab\ncd", 3, 2 + 1i},
		{"ab\ncd", 5, 2 + 3i},
		{"\n", 0, 1 + 1i},
		{"\n", 1, 2 + 1i},
		{"\n\n", 2, 3 + 1i},
		{"\nab\n", 1, 2 + 1i},
		{"\nab\n", 3, 2 + 3i},
		{"\nab\n", 4, 3 + 1i},
		{"a\r\x00\v\fb", 6, 1 + 7i}, // none of these begins a line
		{"\u00e9\u2028\xff", 6, 1 + 7i},
	} {
		if p, e := At(c.text, c.n); p != c.want || e != api.OK {
			t.Errorf("At(%q, %d): %v, %v; want %v", c.text, c.n, p, e, c.want)
		}
	}
}

func TestAtOutside(t *testing.T) {
	for _, text := range []string{"", "a", "\n", "ab\ncd\n"} {
		for _, n := range []int{-1, len(text) + 1, len(text) + 2, math.MinInt, math.MaxInt} {
			if p, e := At(text, n); p != 0 || e != api.ErrPlace {
				t.Errorf("At(%q, %d): %v, %v", text, n, p, e)
			}
		}
	}
}

func TestIndex(t *testing.T) {
	for _, c := range []struct {
		text string
		p    complex128
		want int
	}{
		{"", 1 + 1i, 0},
		{"ab\ncd", 1 + 1i, 0},
		{"ab\ncd", 1 + 3i, 2},
		{"ab\ncd", 2 + 2i, 4},
		{"ab\ncd", 2 + 3i, 5},
		{"\n", 2 + 1i, 1},
		{"\n\na", 2 + 1i, 1},
		{"\n\na", 3 + 2i, 3},
		{"a\rb", 1 + 4i, 3},
		{"\u00e9x", 1 + 3i, 2},
	} {
		if n, e := Index(c.text, c.p); n != c.want || e != api.OK {
			t.Errorf("Index(%q, %v): %d, %v; want %d", c.text, c.p, n, e, c.want)
		}
	}
}

func TestIndexOfNoPlace(t *testing.T) {
	for _, text := range []string{"", "a", "\n", "ab\ncd", "ab\ncd\n", "\n\n\nabc"} {
		there := map[complex128]bool{}
		for n := range len(text) + 1 {
			there[told(text, n)] = true
		}
		for _, line := range append(odd(), 4, 5, 6) {
			for _, column := range append(odd(), 4, 5, 6) {
				p := complex(line, column)
				if there[p] {
					continue
				}
				if n, e := Index(text, p); n != 0 || e != api.ErrPlace {
					t.Errorf("Index(%q, %v): %d, %v", text, p, n, e)
				}
			}
		}
	}
	for _, p := range []complex128{1 + 4i, 2 + 4i, 3 + 1i, 0 + 1i, 1, 1.5 + 1i, 1 + 1.5i, -1 - 1i} {
		if n, e := Index("ab\ncd", p); n != 0 || e != api.ErrPlace {
			t.Errorf("Index(%v): %d, %v", p, n, e)
		}
	}
}

func TestCompare(t *testing.T) {
	// Each row holds parts that are equal; the rows increase.
	rows := [][]float64{
		{nan, otherNaN, -nan},
		{-inf}, {-math.MaxFloat64}, {-1}, {-math.SmallestNonzeroFloat64},
		{0, minus0},
		{math.SmallestNonzeroFloat64}, {0.5}, {1}, {2}, {1<<53 - 1}, {1 << 53}, {1<<53 + 2}, {math.MaxFloat64}, {inf},
	}
	for i, x := range rows {
		for k, y := range rows {
			for _, a := range x {
				for _, b := range y {
					want := sign(i - k)
					check(t, complex(a, 7), complex(b, 7), want)
					check(t, complex(7, a), complex(7, b), want)
					check(t, complex(nan, a), complex(otherNaN, b), want)
					check(t, complex(0, a), complex(minus0, b), want)
					check(t, complex(1, a), complex(2, b), -1)
					check(t, complex(nan, a), complex(-inf, b), -1)
					check(t, complex(2, a), complex(1, b), 1)
				}
			}
		}
	}
}

func sign(n int) int {
	return max(-1, min(n, 1))
}

func check(t *testing.T, a, b complex128, want int) {
	t.Helper()
	if o := Compare(a, b); o != want {
		t.Errorf("Compare(%v, %v): %d; want %d", a, b, o, want)
	}
}

func TestText(t *testing.T) {
	for _, c := range []struct {
		x    float64
		want string
	}{
		{0, "0"}, {minus0, "0"}, {1, "1"}, {9, "9"}, {10, "10"}, {100, "100"}, {1e6, "1000000"}, {1e15, "1000000000000000"},
		{1<<53 - 1, "9007199254740991"}, {1 << 53, "9007199254740992"},
		{1<<53 + 2, "?"}, {1 << 63, "?"}, {1 << 64, "?"}, {math.MaxFloat64, "?"},
		{-1, "?"}, {-0.5, "?"}, {0.5, "?"}, {1.5, "?"}, {math.SmallestNonzeroFloat64, "?"}, {-math.SmallestNonzeroFloat64, "?"},
		{math.Nextafter(1, 2), "?"}, {math.Nextafter(1, 0), "?"},
		{nan, "?"}, {otherNaN, "?"}, {inf, "?"}, {-inf, "?"},
	} {
		if s := Text(complex(c.x, 3)); s != c.want+":3" {
			t.Errorf("Text(%v + 3i): %q", c.x, s)
		}
		if s := Text(complex(3, c.x)); s != "3:"+c.want {
			t.Errorf("Text(3 + %vi): %q", c.x, s)
		}
		if s := Text(complex(c.x, c.x)); s != c.want+":"+c.want {
			t.Errorf("Text(%v + %vi): %q", c.x, c.x, s)
		}
	}
}

func TestMoved(t *testing.T) {
	for _, c := range []struct {
		p    complex128
		text string
		want complex128
	}{
		{2 + 3i, "", 2 + 3i},
		{2 + 3i, "x", 2 + 4i},
		{2 + 3i, "xyz", 2 + 6i},
		{2 + 3i, "\n", 3 + 1i},
		{2 + 3i, "\n\n", 4 + 1i},
		{2 + 3i, "abcdef\nxy", 3 + 3i},
		{2 + 3i, "a\nb\ncde", 4 + 4i},
		{2 + 3i, "\nab\n", 4 + 1i},
		{2 + 3i, "\r\x00\u00e9", 2 + 7i},
		{0, "ab", 2i},
		{0, "\nab", 1 + 3i},
		{-1.5 - 2.5i, "abc", -1.5 + 0.5i},
		{-1.5 - 2.5i, "\nab", -0.5 + 3i},
		{complex(inf, -inf), "ab", complex(inf, -inf)},
		{complex(-inf, nan), "\nab", complex(-inf, 3)},
		{complex(nan, 2), "ab", complex(nan, 4)},
		{complex(2, nan), "ab", complex(2, nan)},
		{complex(nan, 2), "\n", complex(nan, 1)},
		{complex(minus0, minus0), "", 0},
	} {
		if p := Moved(c.p, c.text); Compare(p, c.want) != 0 {
			t.Errorf("Moved(%v, %q): %v; want %v", c.p, c.text, p, c.want)
		}
	}
}

// Near 2^53 one sum of the whole number isn't what as many sums of one would be.
func TestMovedRoundsOnce(t *testing.T) {
	for n := range 9 {
		for _, x := range []float64{1<<53 - 3, 1 << 53, 1<<53 + 2, 1 << 54, 1 << 60, -(1 << 53), 0.1, 1e15 + 0.3, math.MaxFloat64} {
			if p := Moved(complex(7, x), strings.Repeat("x", n)); p != complex(7, x+float64(n)) {
				t.Errorf("Moved(7 + %vi) by %d bytes: %v", x, n, p)
			}
			if n == 0 {
				continue
			}
			if p := Moved(complex(x, 7), strings.Repeat("ab\n", n)+"cd"); p != complex(x+float64(n), 3) {
				t.Errorf("Moved(%v + 7i) by %d lines: %v", x, n, p)
			}
		}
	}
	if p := Moved(complex(1, 1<<53), "abc"); imag(p) != 1<<53+4 {
		t.Errorf("Moved(1 + 2^53 i): %v", p)
	}
}

// P1.2.
func TestInverse(t *testing.T) {
	for _, text := range texts("a\n\xff", 6) {
		before := complex(-inf, -inf)
		for n := range len(text) + 1 {
			p, e := At(text, n)
			if p != told(text, n) || e != api.OK {
				t.Fatalf("At(%q, %d): %v, %v", text, n, p, e)
			}
			if k, e := Index(text, p); k != n || e != api.OK {
				t.Fatalf("Index(%q, %v): %d, %v; want %d", text, p, k, e, n)
			}
			if Compare(before, p) != -1 || Compare(p, before) != 1 {
				t.Fatalf("At(%q, %d): %v isn't behind %v", text, n, p, before)
			}
			before = p
		}
	}
}

// P1.3.
func TestConcatenation(t *testing.T) {
	all := texts("a\n\xff", 4)
	for _, a := range all {
		end, _ := At(a, len(a))
		for _, b := range all {
			for k := range len(b) + 1 {
				p, e := At(a+b, len(a)+k)
				if m := Moved(end, b[:k]); p != m || e != api.OK {
					t.Fatalf("At(%q, %d): %v, %v; moved: %v", a+b, len(a)+k, p, e, m)
				}
			}
		}
	}
}

func TestLongText(t *testing.T) {
	var b strings.Builder
	for n := range 300 {
		b.WriteString(strings.Repeat("x", n*n%97))
		b.WriteByte('\n')
	}
	text := b.String()
	for n := 0; n <= len(text); n += 61 {
		p, e := At(text, n)
		if p != told(text, n) || e != api.OK {
			t.Fatalf("At(%d): %v, %v", n, p, e)
		}
		if k, e := Index(text, p); k != n || e != api.OK {
			t.Fatalf("Index(%v): %d, %v; want %d", p, k, e, n)
		}
	}
}

// P1 and P2 of the document: every call ends without a panic, and answers the same however often it is asked.
func TestTotalAndSame(t *testing.T) {
	type answers struct {
		at      complex128
		index   int
		e, f    api.Errno
		compare int
		text    string
	}
	ask := func(text string, n int, p, q complex128) (answers, complex128) {
		var a answers
		a.at, a.e = At(text, n)
		a.index, a.f = Index(text, p)
		a.compare, a.text = Compare(p, q), Text(p)
		return a, Moved(p, text)
	}
	for _, text := range texts("a\n", 3) {
		for _, x := range odd() {
			for k, y := range odd() {
				p, q, n := complex(x, y), complex(y, x), k-5
				first, moved := ask(text, n, p, q)
				ask(text+"\nz", n+1, q, p)
				again, movedAgain := ask(text, n, p, q)
				if first != again || Compare(moved, movedAgain) != 0 {
					t.Fatalf("%q, %d, %v, %v: %v, %v, then %v, %v", text, n, p, q, first, moved, again, movedAgain)
				}
			}
		}
	}
}
