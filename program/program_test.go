package program_test

import (
	"slices"
	"strings"
	"testing"

	"headgate/api"
	"headgate/program"
)

// list is the commands of some words: the first byte of each is its name, the rest its text. Each has a place of its own.
func list(words string) []api.Command {
	var l []api.Command
	for k, w := range strings.Fields(words) {
		l = append(l, api.Command{Name: w[0], Text: w[1:], Place: complex(float64(k+1), float64(2*k+1))})
	}
	return l
}

// placeOf is the place of the k-th command of a list.
func placeOf(k int) complex128 {
	return complex(float64(k+1), float64(2*k+1))
}

// Programs told by hand: what the commands are, and the jump of each.
func TestPrograms(t *testing.T) {
	for words, jumps := range map[string][]int{
		"":                                       {},
		"p":                                      {0},
		"{ }":                                    {1, 0},
		"{ p }":                                  {2, 0, 0},
		"p { d } x":                              {0, 3, 0, 0, 0},
		"{ } { }":                                {1, 0, 3, 0},
		"{ } p { } { p }":                        {1, 0, 0, 4, 0, 7, 0, 0},
		"{ { } }":                                {3, 2, 0, 0},
		"{ { } { { } } }":                        {7, 2, 0, 6, 5, 0, 0, 0},
		"{ { { p } } d } { }":                    {7, 5, 4, 0, 0, 0, 0, 0, 9, 0},
		":x":                                     {0},
		":":                                      {0},
		":x :y : :xx":                            {0, 0, 0, 0},
		"b":                                      {1},
		"t":                                      {1},
		"p t b p":                                {0, 4, 4, 0},
		": b t":                                  {0, 3, 3},
		"b : t":                                  {3, 0, 3},
		":x bx":                                  {0, 0},
		"p :x tx":                                {0, 0, 1},
		"bx p :x p":                              {2, 0, 0, 0},
		"p tx p p :x":                            {0, 4, 0, 0, 0},
		"by :x bx ty :y by tx b":                 {4, 0, 1, 4, 0, 4, 1, 8},
		"bx bxx :xx :x bX :X":                    {3, 2, 0, 0, 5, 0},
		"{ :x } { bx } tx":                       {2, 0, 0, 5, 1, 0, 1},
		"{ bx { tx } } p { { :x } } bx":          {5, 9, 4, 9, 0, 0, 0, 11, 10, 0, 0, 0, 9},
		"{ b } { t { b } }":                      {2, 9, 0, 8, 9, 7, 9, 0, 0},
		"Bx Tx px ax {x cx }x b t":               {0, 0, 0, 0, 6, 0, 0, 9, 9},
		"ax ix cx rx wx sx yx dx gx hx nx :x bx": {0, 0, 0, 0, 0, 0, 0, 0, 0, 0, 0, 0, 11},
	} {
		check(t, list(words), told{jumps: jumps})
	}
}

// Braces that are wrong, and which of them is named.
func TestWrongBraces(t *testing.T) {
	for words, k := range map[string]int{
		"}":                    0,
		"} p":                  0,
		"p }":                  1,
		"{ } }":                2,
		"{ } } { }":            2,
		"{ p } p } p }":        4,
		"} } }":                0,
		"{ { } } } }":          4,
		"{":                    0,
		"p { p":                1,
		"{ {":                  1,
		"{ p { p { p":          4,
		"{ { }":                0,
		"{ { } p { } p":        0,
		"{ } {":                2,
		"{ } { { }":            2,
		"{ { } {":              3,
		"{ p { } { { } p":      4,
		"{ { { } }":            0,
		"} {":                  0,
		"} { }":                0,
		"} { {":                0,
		"{ } } {":              2,
		"{ } } { {":            2,
		"{ } p } { } }":        3,
		"{ { } } p } { p":      5,
		"{ :x :x":              0,
		":x :x {":              2,
		":x :x }":              2,
		"bx }":                 1,
		"bx { tx":              1,
		"} bx :y :y":           0,
		":x { :x { bz } p":     1,
		":x :x bz { } { } p }": 8,
	} {
		check(t, list(words), told{p: placeOf(k), e: api.ErrBrace})
	}
}

// Labels that are wrong, and which of them is named.
func TestWrongLabels(t *testing.T) {
	for words, k := range map[string]int{
		":x :x":               1,
		":x p :x":             2,
		":x :x :x":            1,
		":x :y :y :x":         2,
		":x :y :x :y":         2,
		": :":                 1,
		": p : p :":           2,
		"{ :x } { :x }":       4,
		":x bx :x bx":         2,
		"bx":                  0,
		"tx":                  0,
		"p tx":                1,
		"b t bx":              2,
		": bx":                1,
		":x by":               1,
		"by :x":               0,
		":xx bx":              1,
		":x bxx":              1,
		":X bx":               1,
		"bx by bz":            0,
		"b tx by":             1,
		":x bx tx ty bz":      3,
		"{ bx { :x } ty } tz": 5,
		"bz :x :x":            2,
		"bz tz : :":           3,
		":x bz :x":            2,
		":x bx ty :y by :x":   5,
		"ax bx":               1,
		"px rx wx bx":         3,
		"{ } p { tx }":        4,
	} {
		check(t, list(words), told{p: placeOf(k), e: api.ErrLabel})
	}
}

// How deep braces are, also where they're wrong.
func TestDeep(t *testing.T) {
	for words, deep := range map[string]int{
		"":                        0,
		"p d :x bx":               0,
		"{":                       1,
		"}":                       0,
		"} } }":                   0,
		"{ }":                     1,
		"{ p }":                   1,
		"{ } { } { }":             1,
		"{ { } }":                 2,
		"{ { } { } }":             2,
		"{ { } { { } } }":         3,
		"{ { { } } } { }":         3,
		"{ } { { { } } }":         3,
		"{ } } {":                 1,
		"} {":                     1,
		"} } {":                   1,
		"} } } { {":               2,
		"{ } } } { {":             2,
		"{ } } { { } }":           2,
		"{ { {":                   3,
		"{ } { {":                 2,
		"{ { } {":                 2,
		"{ { } } } { { } } { { {": 3,
		"{x {y }z {":              2,
		"[ ( < { ) ] >":           1,
	} {
		if got := program.Deep(list(words)); got != deep {
			t.Errorf("Deep(%q): %d; want %d", words, got, deep)
		}
	}
}

// w is a command that writes to a path, and s one that does so if it has one.
func w(path string) api.Command { return api.Command{Name: 'w', Text: path} }

func s(path string) api.Command { return api.Command{Name: 's', File: path} }

// The paths to which commands write.
func TestFiles(t *testing.T) {
	for _, c := range []struct {
		l    []api.Command
		want []string
	}{
		{nil, nil},
		{list("p d :x bx rx ax {x }"), nil},
		{[]api.Command{w("a")}, []string{"a"}},
		{[]api.Command{s("a")}, []string{"a"}},
		{[]api.Command{s("")}, nil},
		{[]api.Command{s(""), s(""), {Name: 'p'}}, nil},
		{[]api.Command{s(""), w("a"), s("")}, []string{"a"}},
		{[]api.Command{w("a"), s("a")}, []string{"a"}},
		{[]api.Command{s("a"), w("a"), s("a"), w("a")}, []string{"a"}},
		{[]api.Command{w("b"), w("a")}, []string{"a", "b"}},
		{[]api.Command{w("b"), s("a"), w("c"), s("b"), s(""), w("a")}, []string{"a", "b", "c"}},
		{[]api.Command{s("c"), s("b"), s("a"), s("b")}, []string{"a", "b", "c"}},
		{[]api.Command{w("ab"), w("abc"), w("a"), w("b"), s("aa")}, []string{"a", "aa", "ab", "abc", "b"}},
		{[]api.Command{w("a/b"), w("a"), w("a.b"), w("a/")}, []string{"a", "a.b", "a/", "a/b"}},
		{[]api.Command{w("\xff"), w("\x80"), w("\x7f"), w("z"), w("\xc3\xa9"), w("A")}, []string{"A", "z", "\x7f", "\x80", "\xc3\xa9", "\xff"}},
		{[]api.Command{w("a\xff"), w("a"), w("a\x00"), w("aa")}, []string{"a", "a\x00", "aa", "a\xff"}},
		{[]api.Command{w("10"), w("9"), w("2"), w("1")}, []string{"1", "10", "2", "9"}},
		{[]api.Command{w(""), w("a")}, []string{"", "a"}},
		{[]api.Command{{Name: 's', Text: "t"}, {Name: 's', Text: "t", File: "f", Other: "o"}}, []string{"f"}},
		{[]api.Command{{Name: 'w', Text: "t", File: "f", Other: "o"}}, []string{"t"}},
		{[]api.Command{{Name: 'r', Text: "t", File: "f"}, {Name: 'W', Text: "t", File: "f"}, {Name: 'S', Text: "t", File: "f"}, {Name: 'y', Text: "t", File: "f", Other: "o"}, {Text: "t", File: "f"}}, nil},
		{[]api.Command{w("b"), {Name: '}'}, s("a"), {Name: '{'}, {Name: 'b', Text: "nowhere"}}, []string{"a", "b"}},
	} {
		if got := program.Files(c.l); !slices.Equal(got, c.want) {
			t.Errorf("Files(%+v): %q; want %q", c.l, got, c.want)
		}
	}
}
