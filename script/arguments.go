package script

import (
	"strings"

	"headgate/api"
	"headgate/replace"
	"headgate/token"
)

// substitution reads the arguments of s.
func (r *reader) substitution(c *api.Command) bool {
	delim := r.anyByte()
	return r.pattern(&c.Pattern, &c.Again, delim) && r.template(c, delim) && r.flags(c)
}

// template reads the template of s up to a delimiter.
func (r *reader) template(c *api.Command, delim byte) bool {
	var text string
	if !r.cut(&text, delim, true) {
		return false
	}
	var e api.Errno
	c.Template, e = replace.Parse(text)
	if e != api.OK {
		return false
	}
	// How many groups the pattern has that was used last, only a run can tell.
	return c.Again || replace.Groups(c.Template) <= groups(c.Pattern)
}

// groups returns how many groups a pattern has.
func groups(n api.Node) int {
	count := 0
	if n.Kind == api.Group {
		count++
	}
	for _, kid := range n.Kids {
		count += groups(kid)
	}
	return count
}

// flags reads the flags of s. One that may not be, or not once more, stays: nothing that may follow a command begins so.
func (r *reader) flags(c *api.Command) bool {
	counted := false
	c.Count = 1
	once := func(mark string, flag *bool) bool {
		if *flag || !r.take(mark) {
			return false
		}
		*flag = true
		return true
	}
next:
	if once("g", &c.Global) || once("p", &c.Print) {
		goto next
	}
	if n, at, ok := token.Number(r.text, r.at); ok && n > 0 && !counted {
		c.Count, r.at, counted = n, at, true
		goto next
	}
	return !r.take("w") || r.path(&c.File)
}

// exchange reads the arguments of y.
func (r *reader) exchange(c *api.Command) bool {
	delim := r.anyByte()
	if !r.listed(&c.Text, delim) || !r.listed(&c.Other, delim) {
		return false
	}
	return len(c.Text) == len(c.Other) && !twice(c.Text)
}

// listed reads what y takes or gives up to a delimiter.
func (r *reader) listed(text *string, delim byte) bool {
	var written string
	if !r.cut(&written, delim, false) {
		return false
	}
	var b []byte
next:
	plain, behind, more := strings.Cut(written, `\`)
	b = append(b, plain...)
	switch {
	case !more:
		*text = string(b)
		return true
	case strings.HasPrefix(behind, `\`):
		b = append(b, '\\')
	case strings.HasPrefix(behind, "n"):
		b = append(b, '\n')
	default:
		return false
	}
	written = behind[1:]
	goto next
}

// twice tells whether a text has a byte more than once.
func twice(text string) bool {
	for at := range len(text) {
		if strings.IndexByte(text[at+1:], text[at]) >= 0 {
			return true
		}
	}
	return false
}
