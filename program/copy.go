package program

import (
	"slices"

	"headgate/api"
)

// copyOf copies a command with all its slices, since a program shares none with the commands it was made of.
func copyOf(c api.Command) api.Command {
	c.From.Pattern = copyOfNode(c.From.Pattern)
	c.To.Pattern = copyOfNode(c.To.Pattern)
	c.Pattern = copyOfNode(c.Pattern)
	c.Template = slices.Clone(c.Template)
	return c
}

// copyOfNode does so with a pattern.
func copyOfNode(n api.Node) api.Node {
	n.Kids = slices.Clone(n.Kids)
	for i, kid := range n.Kids {
		n.Kids[i] = copyOfNode(kid)
	}
	return n
}
