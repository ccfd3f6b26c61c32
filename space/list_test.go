package space_test

import (
	"strings"
	"testing"

	"headgate/space"
)

// checkList holds the display of a text against rows told by hand: without the \ and the line feed between them, and without what is at the end.
func checkList(t *testing.T, s string, rows ...string) {
	t.Helper()
	want := strings.Join(rows, "\\\n") + "$\n"
	if l := space.List(s); l != want {
		t.Errorf("List(%q): %q; want %q", s, l, want)
	}
}

// Texts displayed by hand.
func TestList(t *testing.T) {
	for s, row := range map[string]string{
		"": "", "a": "a", "a b": "a b", " ": " ", "  ": "  ", "a$": "a$", "$": "$", "~": "~", "\x7f": `\177`,
		`\`: `\\`, `\\`: `\\\\`, `a\b`: `a\\b`, `\n`: `\\n`, `\\n`: `\\\\n`, `\012`: `\\012`,
		"\n": `\n`, "\n\n": `\n\n`, "a\nb": `a\nb`, "a\n": `a\n`, "\t": `\t`, "\r\n": `\r\n`, "$\n": `$\n`, "\\\n": `\\\n`,
		"\a\b\t\n\v\f\r": `\a\b\t\n\v\f\r`, "abtnvfr": "abtnvfr",
		"\x00": `\000`, "\x06": `\006`, "\x0e": `\016`, "\x1b": `\033`, "\x1f": `\037`, "\x80": `\200`, "\xff": `\377`, "\x01\xff": `\001\377`, "\x00" + "7": `\0007`, "é": `\303\251`, "\u2028": `\342\200\250`,
		"a\\b\t\n": `a\\b\t\n`, "\"'`": "\"'`", "%d &": "%d &",
	} {
		checkList(t, s, row)
	}
}

// Each of all bytes alone, and between others: what is shown of it is told from tables of the numbers that the chapter names.
func TestListBytes(t *testing.T) {
	named := map[int]string{7: `\a`, 8: `\b`, 9: `\t`, 10: `\n`, 11: `\v`, 12: `\f`, 13: `\r`, 92: `\\`}
	for c := range 256 {
		s := string([]byte{byte(c)})
		want, ok := named[c]
		if !ok && 32 <= c && c <= 126 {
			want = s
		} else if !ok {
			want = `\` + string([]byte{'0' + byte(c/64), '0' + byte(c/8%8), '0' + byte(c%8)})
		}
		checkList(t, s, want)
		checkList(t, s+s, want+want)
		checkList(t, "a"+s+"0", "a"+want+"0")
	}
}

// All bytes in one text.
func TestListEveryByte(t *testing.T) {
	checkList(t, everyByte(),
		`\000\001\002\003\004\005\006\a\b\t\n\v\f\r\016\017\020\021\022\023`,
		`\024\025\026\027\030\031\032\033\034\035\036\037 !"#$%&'()*+,-./01234`,
		`56789:;<=>?@ABCDEFGHIJKLMNOPQRSTUVWXYZ[\\]^_`+"`"+`abcdefghijklmnopqrstuvwx`,
		`yz{|}~\177\200\201\202\203\204\205\206\207\210\211\212\213\214\215`,
		`\216\217\220\221\222\223\224\225\226\227\230\231\232\233\234\235\236`,
		`\237\240\241\242\243\244\245\246\247\250\251\252\253\254\255\256\257`,
		`\260\261\262\263\264\265\266\267\270\271\272\273\274\275\276\277\300`,
		`\301\302\303\304\305\306\307\310\311\312\313\314\315\316\317\320\321`,
		`\322\323\324\325\326\327\330\331\332\333\334\335\336\337\340\341\342`,
		`\343\344\345\346\347\350\351\352\353\354\355\356\357\360\361\362\363`,
		`\364\365\366\367\370\371\372\373\374\375\376\377`)
}

// A row has at most 69 bytes ahead of its \ or $: a byte that is shown as one goes into the 69th.
func TestListRows(t *testing.T) {
	checkList(t, xs(68), xs(68))
	checkList(t, xs(69), xs(69))
	checkList(t, xs(70), xs(69), "x")
	checkList(t, xs(137), xs(69), xs(68))
	checkList(t, xs(138), xs(69), xs(69))
	checkList(t, xs(139), xs(69), xs(69), "x")
	checkList(t, xs(207), xs(69), xs(69), xs(69))
	checkList(t, xs(208), xs(69), xs(69), xs(69), "x")
	checkList(t, xs(68)+"$", xs(68)+"$")
	checkList(t, xs(69)+"$", xs(69), "$")
	checkList(t, xs(69)+"y"+xs(68), xs(69), "y"+xs(68))
}

// A byte that is shown as two is never divided.
func TestListPairs(t *testing.T) {
	for c, pair := range map[string]string{`\`: `\\`, "\t": `\t`, "\n": `\n`, "\r": `\r`, "\a": `\a`} {
		checkList(t, xs(66)+c, xs(66)+pair)
		checkList(t, xs(67)+c, xs(67)+pair)
		checkList(t, xs(68)+c, xs(68), pair)
		checkList(t, xs(69)+c, xs(69), pair)
		checkList(t, xs(70)+c, xs(69), "x"+pair)
		checkList(t, xs(67)+c+"y", xs(67)+pair, "y")
		checkList(t, xs(66)+c+"y", xs(66)+pair+"y")
		checkList(t, xs(66)+c+c, xs(66)+pair, pair)
		checkList(t, xs(68)+c+xs(67), xs(68), pair+xs(67))
		checkList(t, xs(68)+c+xs(68), xs(68), pair+xs(67), "x")
		checkList(t, strings.Repeat(c, 34), strings.Repeat(pair, 34))
		checkList(t, strings.Repeat(c, 34)+"x", strings.Repeat(pair, 34)+"x")
		checkList(t, strings.Repeat(c, 35), strings.Repeat(pair, 34), pair)
		checkList(t, strings.Repeat(c, 69), strings.Repeat(pair, 34), strings.Repeat(pair, 34), pair)
	}
}

// Neither is one that is shown as four.
func TestListOctals(t *testing.T) {
	for c, four := range map[string]string{"\x00": `\000`, "\x7f": `\177`, "\x80": `\200`, "\xff": `\377`, "\x0e": `\016`} {
		checkList(t, xs(64)+c, xs(64)+four)
		checkList(t, xs(65)+c, xs(65)+four)
		checkList(t, xs(66)+c, xs(66), four)
		checkList(t, xs(67)+c, xs(67), four)
		checkList(t, xs(68)+c, xs(68), four)
		checkList(t, xs(69)+c, xs(69), four)
		checkList(t, xs(65)+c+"y", xs(65)+four, "y")
		checkList(t, xs(66)+c+xs(65), xs(66), four+xs(65))
		checkList(t, xs(66)+c+xs(66), xs(66), four+xs(65), "x")
		checkList(t, xs(66)+"\n"+c, xs(66)+`\n`, four)
		checkList(t, xs(66)+c+"\n", xs(66), four+`\n`)
		checkList(t, strings.Repeat(c, 17), strings.Repeat(four, 17))
		checkList(t, strings.Repeat(c, 17)+"x", strings.Repeat(four, 17)+"x")
		checkList(t, strings.Repeat(c, 17)+"\t", strings.Repeat(four, 17), `\t`)
		checkList(t, strings.Repeat(c, 18), strings.Repeat(four, 17), four)
		checkList(t, strings.Repeat(c, 35), strings.Repeat(four, 17), strings.Repeat(four, 17), four)
	}
}
