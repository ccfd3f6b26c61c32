package script

import (
	"headgate/api"
	"headgate/token"
)

// command reads a command, and tells whether it is right.
func (r *reader) command(c *api.Command) bool {
	if !r.addresses(c) {
		return false
	}
	r.negation(c)
	c.Name = r.anyByte()
	most, arguments := r.letter(c)
	if arguments == nil || addresses(c) > most || !arguments() {
		return false
	}
	return c.Name == '{' || r.ended()
}

// addresses reads the addresses of a command.
func (r *reader) addresses(c *api.Command) bool {
	if !r.address(&c.From) {
		return false
	}
	if c.From.Kind == api.NoAddress || !r.take(",") {
		return true
	}
	r.blanks()
	return r.address(&c.To) && c.To.Kind != api.NoAddress
}

// addresses returns how many addresses a command has.
func addresses(c *api.Command) int {
	switch {
	case c.To.Kind != api.NoAddress:
		return 2
	case c.From.Kind != api.NoAddress:
		return 1
	}
	return 0
}

// address reads an address, if there is one, and the blanks behind it. Digits that are none stay: they are no letter either.
func (r *reader) address(a *api.Address) bool {
	right := true
	if n, at, ok := token.Number(r.text, r.at); ok && n > 0 {
		a.Kind, a.Line, r.at = api.Line, n, at
	} else if r.take("$") {
		a.Kind = api.Last
	} else if r.take("/") {
		right = r.matched(a, '/')
	} else if r.take(`\`) {
		right = r.matched(a, r.anyByte())
	}
	r.blanks()
	return right
}

// matched reads the pattern of an address.
func (r *reader) matched(a *api.Address, delim byte) bool {
	again := false
	right := r.pattern(&a.Pattern, &again, delim)
	a.Kind = api.Pattern
	if again {
		a.Kind = api.Again
	}
	return right
}

// negation reads what stands between addresses and a letter.
func (r *reader) negation(c *api.Command) {
next:
	r.blanks()
	if r.take("!") {
		c.Not = true
		goto next
	}
}

// letter returns how many addresses a command may have by its letter, and what reads its arguments: nil, if there is no such letter.
func (r *reader) letter(c *api.Command) (most int, arguments func() bool) {
	none := func() bool {
		return true
	}
	word := func() bool {
		c.Text, r.at = token.Word(r.text, r.at)
		return true
	}
	label := func() bool {
		return word() && c.Text != ""
	}
	lines := func() bool {
		var e api.Errno
		c.Text, r.at, e = token.Lines(r.text, r.at)
		return e == api.OK
	}
	file := func() bool {
		return r.path(&c.Text)
	}
	switch c.Name {
	case '{', 'd', 'D', 'g', 'G', 'h', 'H', 'l', 'n', 'N', 'p', 'P', 'x':
		return 2, none
	case '=', 'q':
		return 1, none
	case '}':
		return 0, none
	case 'a', 'i':
		return 1, lines
	case 'c':
		return 2, lines
	case ':':
		return 0, label
	case 'b', 't':
		return 2, word
	case 'r':
		return 1, file
	case 'w':
		return 2, file
	case 's':
		return 2, func() bool { return r.substitution(c) }
	case 'y':
		return 2, func() bool { return r.exchange(c) }
	}
	return 0, nil
}
