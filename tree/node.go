package tree

import (
	"slices"
	"strings"

	"headgate/rope"
)

// least and most are how many files a node has. One with more is divided, one with fewer is joined with one beside it, so that all leaves stay equally deep; the depth of a tree of n files is then at most the logarithm of n + 1 to base 2.
const (
	least = 1
	most  = 2 * least
)

// file is what a tree has by a path.
type file struct {
	path    string
	version int
	rope    *rope.Rope
}

// node has files in increasing order of their paths. A leaf has no kids, another node has one more than files: the files of kid i lie between its files i - 1 and i. All leaves are equally deep. A node in a tree never changes, nor do its slices.
type node struct {
	files []file
	kids  []*node
}

// place returns the index of a path, or of the first greater one, and whether it is there.
func (n *node) place(path string) (int, bool) {
	return slices.BinarySearchFunc(n.files, path, func(f file, path string) int {
		return strings.Compare(f.path, path)
	})
}

// kid returns a kid, nil of a leaf.
func (n *node) kid(i int) *node {
	if len(n.kids) == 0 {
		return nil
	}
	return n.kids[i]
}

// last returns the file with the greatest path.
func (n *node) last() file {
	for len(n.kids) > 0 {
		n = n.kids[len(n.kids)-1]
	}
	return n.files[len(n.files)-1]
}

// with returns a node with a file. It may have one file too many.
func (n *node) with(f file) *node {
	if n == nil {
		return &node{files: []file{f}}
	}
	i, there := n.place(f.path)
	switch {
	case there:
		return &node{spliced(n.files, i, i+1, f), n.kids}
	case len(n.kids) == 0:
		return &node{files: spliced(n.files, i, i, f)}
	}
	return n.changed(i, n.kids[i].with(f))
}

// without returns a node without a file that is there. It may have one file too few.
func (n *node) without(path string) *node {
	i, there := n.place(path)
	switch {
	case len(n.kids) == 0:
		return &node{files: spliced(n.files, i, i+1)}
	case there:
		f := n.kids[i].last()
		moved := &node{spliced(n.files, i, i+1, f), n.kids}
		return moved.changed(i, n.kids[i].without(f.path))
	}
	return n.changed(i, n.kids[i].without(path))
}

// changed returns a node with another one in the place of a kid, which may have one file too many or too few; then so may what is returned.
func (n *node) changed(i int, kid *node) *node {
	files, kids := n.files, spliced(n.kids, i, i+1, kid)
	if len(kid.files) < least {
		i = max(i-1, 0)
		kid = joined(kids[i], files[i], kids[i+1])
		files, kids = spliced(files, i, i+1), spliced(kids, i, i+2, kid)
	}
	if len(kid.files) > most {
		a, middle, b := kid.halves()
		files, kids = spliced(files, i, i, middle), spliced(kids, i, i+1, a, b)
	}
	return &node{files, kids}
}

// halves returns a node with the files ahead of a middle one, that file, and a node with those behind it.
func (n *node) halves() (*node, file, *node) {
	m := len(n.files) / 2
	return n.part(0, m), n.files[m], n.part(m+1, len(n.files))
}

// part returns a node with the files from an index up to another one, and the kids around them. Its slices are copies: else it would keep what is dropped from the other part.
func (n *node) part(from, to int) *node {
	p := &node{files: slices.Clone(n.files[from:to])}
	if len(n.kids) > 0 {
		p.kids = slices.Clone(n.kids[from : to+1])
	}
	return p
}

// joined returns a node with the files of two and the one between them.
func joined(a *node, middle file, b *node) *node {
	return &node{slices.Concat(a.files, []file{middle}, b.files), slices.Concat(a.kids, b.kids)}
}

// spliced returns a new slice, in which others are in the place of the elements from an index up to another one.
func spliced[T any](l []T, from, to int, others ...T) []T {
	return slices.Concat(l[:from], others, l[to:])
}
