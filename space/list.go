package space

// maxRow is how many bytes a row may show.
const maxRow = 69

// What the rows of a listing end with.
const (
	rowEnd  = "\\\n"
	lastEnd = "$\n"
)

// The bytes that are shown by a letter: letters has those of firstLetter and of the bytes that follow it.
const (
	firstLetter = '\a'
	letters     = "abtnvfr"
)

// The first and the last of the bytes that are shown as themselves.
const (
	firstPlain = ' '
	lastPlain  = '~'
)

// List displays a text in rows, so that every byte can be told.
func List(s string) string {
	var b []byte
	at, row := 0, 0
next:
	if at == len(s) {
		return string(append(b, lastEnd...))
	}
	what := shown(s[at])
	// What shows one byte is never divided.
	if row+len(what) > maxRow {
		b = append(b, rowEnd...)
		row = 0
	}
	b = append(b, what...)
	row += len(what)
	at++
	goto next
}

// shown is what a byte is displayed as.
func shown(c byte) string {
	switch {
	case c == '\\':
		return `\\`
	case c >= firstLetter && c < firstLetter+byte(len(letters)):
		k := c - firstLetter
		return `\` + letters[k:k+1]
	case c < firstPlain || c > lastPlain:
		return octal(c)
	}
	return string([]byte{c})
}

// octal is a \ and the three octal digits of a byte.
func octal(c byte) string {
	b := []byte(`\000`)
	for k := range len(b) - 1 {
		b[len(b)-1-k] += c & 7
		c >>= 3
	}
	return string(b)
}
