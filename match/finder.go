package match

import "headgate/api"

// finder tells where the nodes of a tree match a text.
type finder struct {
	text   string
	begins bool
	limit  int // nobody asks about a match that ends behind it
	nodes  []node
	kept   map[state]indexes // the longer ends from an index
}

// state is a node that begins at an index.
type state struct {
	node, from int
}

// node is a tree's node, with the numbers of those of its kids that count.
type node struct {
	api.Node
	kids    []int
	empty   spots // where it matches the empty text
	grouped bool  // it is, or has, a group with a span of its own
	longer  flow
}

// flow returns where a node's matches end that begin at some indexes and are not empty.
type flow func(starts indexes) indexes

// spots are kinds of indexes, each a bit: whether a node matches the empty text hangs on the kind of the index alone.
type spots uint8

const (
	within spots = 1 << iota
	atBegin
	atEnd
	atBoth
	everywhere = within | atBegin | atEnd | atBoth
)

func newFinder(text string, begins bool, limit int) *finder {
	return &finder{text: text, begins: begins, limit: limit, kept: map[state]indexes{}}
}

// number adds the nodes of a tree, kids ahead of what they are kids of, and returns the root's number.
func (f *finder) number(n api.Node) int {
	x := node{Node: n}
	for _, kid := range counting(n) {
		x.kids = append(x.kids, f.number(kid))
	}
	x.empty = f.emptySpots(x)
	x.grouped = f.hasGroup(x)
	x.longer = f.flow(x)
	f.nodes = append(f.nodes, x)
	return len(f.nodes) - 1
}

// counting returns the kids that a node's matches hang on.
func counting(n api.Node) []api.Node {
	switch n.Kind {
	case api.Row, api.Either:
		return n.Kids
	case api.Repeat, api.Group:
		if len(n.Kids) == 0 {
			return []api.Node{{Kind: api.Nothing}}
		}
		return n.Kids[:1]
	}
	return nil
}

// emptySpots returns where a node matches the empty text. A node that does so within a text does so everywhere, since no kind asks that an index be none of the ends.
func (f *finder) emptySpots(n node) spots {
	switch n.Kind {
	case api.One:
		return 0
	case api.Begin:
		return atBegin | atBoth
	case api.End:
		return atEnd | atBoth
	case api.Either:
		return f.emptyInOne(n)
	case api.Repeat:
		if n.Min <= 0 {
			return everywhere
		}
	}
	return f.emptyInAll(n)
}

// emptyInOne returns where one of a node's kids matches the empty text.
func (f *finder) emptyInOne(n node) spots {
	var s spots
	for _, kid := range n.kids {
		s |= f.nodes[kid].empty
	}
	return s
}

// emptyInAll returns where all of a node's kids match the empty text.
func (f *finder) emptyInAll(n node) spots {
	s := everywhere
	for _, kid := range n.kids {
		s &= f.nodes[kid].empty
	}
	return s
}

// hasGroup tells whether a node is, or has, a group with a span of its own.
func (f *finder) hasGroup(n node) bool {
	for _, kid := range n.kids {
		if f.nodes[kid].grouped {
			return true
		}
	}
	return n.Kind == api.Group && hasSpan(n.Number)
}

// hasSpan tells whether a match has a span for the groups of a number.
func hasSpan(number int) bool {
	return number >= 1 && number < len(api.Match{})
}

// spot returns the kind of an index.
func (f *finder) spot(i int) spots {
	begins, ends := i == 0 && f.begins, i == len(f.text)
	switch {
	case begins && ends:
		return atBoth
	case begins:
		return atBegin
	case ends:
		return atEnd
	}
	return within
}

// emptyAt tells whether a node matches the empty text at an index.
func (f *finder) emptyAt(number, i int) bool {
	return f.nodes[number].empty&f.spot(i) != 0
}

// empties returns those of some indexes at which a node matches the empty text.
func (f *finder) empties(number int, s indexes) indexes {
	if f.nodes[number].empty&within != 0 {
		return s
	}
	var found indexes
	if s.has(0) && f.emptyAt(number, 0) {
		found = only(0)
	}
	if end := len(f.text); s.has(end) && f.emptyAt(number, end) {
		found = both(found, only(end))
	}
	return found
}

// longerEnds returns where a node's matches end that begin at some indexes and are not empty.
func (f *finder) longerEnds(number int, starts indexes) indexes {
	n := &f.nodes[number]
	switch n.Kind {
	case api.Row, api.Either, api.Repeat:
		if i, ok := starts.alone(); ok {
			return f.endsFrom(number, i)
		}
	}
	return n.longer(starts)
}

// endsFrom does so for one index, and keeps what it finds: the ways to come to an index may be very many.
func (f *finder) endsFrom(number, i int) indexes {
	s, ok := f.kept[state{number, i}]
	if !ok {
		s = f.nodes[number].longer(only(i))
		f.kept[state{number, i}] = s
	}
	return s
}

// ends returns where a node's matches end that begin at some indexes.
func (f *finder) ends(number int, starts indexes) indexes {
	return both(f.longerEnds(number, starts), f.empties(number, starts))
}

// matches tells whether a node matches from an index to another one.
func (f *finder) matches(number, from, to int) bool {
	return f.ends(number, only(from)).has(to)
}
