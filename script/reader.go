package script

import (
	"strings"

	"headgate/api"
	"headgate/pattern"
	"headgate/token"
	"headgate/tree"
)

// reader reads a script part by part. A part that is wrong ends all reading, so it may leave the reader anywhere.
type reader struct {
	text     string
	at       int // the index of what is read next
	extended bool
}

// follows tells whether one of some bytes follows.
func (r *reader) follows(some string) bool {
	return r.at < len(r.text) && strings.IndexByte(some, r.text[r.at]) >= 0
}

// take leaves one of some bytes behind, and tells whether it followed.
func (r *reader) take(some string) bool {
	if !r.follows(some) {
		return false
	}
	r.at++
	return true
}

// anyByte takes the byte that follows. At the end it returns 0, which is no letter, and nothing can be cut there.
func (r *reader) anyByte() byte {
	if r.at == len(r.text) {
		return 0
	}
	r.at++
	return r.text[r.at-1]
}

// blanks leaves blanks behind.
func (r *reader) blanks() {
	r.at = token.Blanks(r.text, r.at)
}

// skip leaves behind what may stand ahead of commands and at the end.
func (r *reader) skip() {
next:
	r.blanks()
	if r.take("\n;") {
		goto next
	}
	if r.follows("#") {
		_, r.at = token.Rest(r.text, r.at)
		goto next
	}
}

// ended tells whether what follows may follow a command: the one behind it needs it, so it stays.
func (r *reader) ended() bool {
	r.blanks()
	return r.at == len(r.text) || r.follows("\n;}#")
}

// cut reads up to a delimiter.
func (r *reader) cut(text *string, delim byte, lines bool) bool {
	var e api.Errno
	*text, r.at, e = token.Cut(r.text, r.at, delim, lines)
	return e == api.OK
}

// pattern reads a pattern up to a delimiter: an empty one is the one that was used last, again.
func (r *reader) pattern(n *api.Node, again *bool, delim byte) bool {
	var text string
	if !r.cut(&text, delim, false) {
		return false
	}
	if text == "" {
		*again = true
		return true
	}
	var e api.Errno
	*n, e = pattern.Parse(text, r.extended)
	return e == api.OK
}

// path reads the path of a file.
func (r *reader) path(path *string) bool {
	*path, r.at = token.Rest(r.text, r.at)
	return tree.Right(*path)
}
