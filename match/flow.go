package match

import (
	"headgate/api"
	"headgate/class"
)

// step adds to a set where a node's matches end that begin at an index and are not empty.
type step func(i int, into *indexes)

// flow makes the flow of a node whose kids have theirs.
func (f *finder) flow(n node) flow {
	switch n.Kind {
	case api.One:
		one := f.one(n.Set)
		return func(starts indexes) indexes { return after(one, starts) }
	case api.Row:
		return f.row(n)
	case api.Either:
		return f.either(n)
	case api.Group:
		return func(starts indexes) indexes { return f.longerEnds(n.kids[0], starts) }
	case api.Repeat:
		return f.repeat(n)
	}
	return func(indexes) indexes { return indexes{} }
}

// after returns where a step leads from some indexes.
func after(next step, starts indexes) indexes {
	i := starts.next(0)
	ends := since(max(i, 0))
	for ; i >= 0; i = starts.next(i + 1) {
		next(i, &ends)
	}
	return ends
}

// spread adds to a set where any number of steps leads from what is in it.
func spread(next step, s *indexes) {
	for i := s.next(0); i >= 0; i = s.next(i + 1) {
		next(i, s)
	}
}

// one makes the step of a byte that is in a set.
func (f *finder) one(s api.Set) step {
	return func(i int, into *indexes) {
		if i < f.limit && class.Has(s, f.text[i]) {
			into.add(i + 1)
		}
	}
}

// row makes the flow of one kid behind the other. What has stood still is held apart from what has moved, since only the latter isn't empty.
func (f *finder) row(n node) flow {
	return func(starts indexes) indexes {
		still, moved := starts, indexes{}
		for _, kid := range n.kids {
			longer := f.longerEnds(kid, both(still, moved))
			still, moved = f.empties(kid, still), both(longer, f.empties(kid, moved))
			if still.empty() && moved.empty() {
				break
			}
		}
		return moved
	}
}

// either makes the flow of one kid or the other.
func (f *finder) either(n node) flow {
	return func(starts indexes) indexes {
		var ends indexes
		for _, kid := range n.kids {
			ends = both(ends, f.longerEnds(kid, starts))
		}
		return ends
	}
}

// step makes the step of a node whose flow is made.
func (f *finder) step(number int) step {
	n := f.nodes[number]
	switch n.Kind {
	case api.One:
		return f.one(n.Set)
	case api.Group:
		return f.step(n.kids[0])
	}
	return func(i int, into *indexes) { into.addAll(f.endsFrom(number, i)) }
}

// least returns how many rounds a repeat must have that aren't empty, unless it ends where its kid matches the empty text: none if that is everywhere.
func (f *finder) least(n node) int {
	if f.nodes[n.kids[0]].empty&within != 0 {
		return 0
	}
	return max(n.Min, 0)
}

// isSpread tells whether a node's matches one behind the other are its matches, too: it is repeated as often as it can be, or not at all.
func (f *finder) isSpread(number int) bool {
	n := &f.nodes[number]
	for n.Kind == api.Group {
		n = &f.nodes[n.kids[0]]
	}
	return n.Kind == api.Repeat && n.Max < 0 && n.empty&within != 0
}

// repeat makes the flow of a kid that is repeated. From the least round on only what is new goes on: what was reached earlier has more rounds left.
func (f *finder) repeat(n node) flow {
	kid, least := n.kids[0], f.least(n)
	if n.Max != 0 && f.isSpread(kid) {
		return func(starts indexes) indexes { return f.longerEnds(kid, starts) }
	}
	next := f.step(kid)
	return func(starts indexes) indexes {
		front, round := starts, 1
		var ends indexes
		for ; round < least && (n.Max < 0 || round <= n.Max) && !front.empty(); round++ {
			front = after(next, front)
			ends = both(ends, f.empties(kid, front))
		}
		if n.Max < 0 {
			front = after(next, front)
			spread(next, &front)
			return both(ends, front)
		}
		for ; round <= n.Max && !front.empty(); round++ {
			front = after(next, front)
			front.drop(ends)
			ends = both(ends, front)
		}
		return ends
	}
}
