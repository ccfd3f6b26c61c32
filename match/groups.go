package match

import "headgate/api"

// found returns the match of a tree from an index to another one, where it matches.
func (f *finder) found(root, from, to int) api.Match {
	var m api.Match
	for k := range m {
		m[k] = api.Span{From: -1, To: -1}
	}
	m[0] = api.Span{From: from, To: to}
	f.limit = to
	f.groups(root, from, to, &m)
	return m
}

// groups sets the spans of the groups of a node, where it matches.
func (f *finder) groups(number, from, to int, m *api.Match) {
	n := &f.nodes[number]
	if !n.grouped {
		return
	}
	switch n.Kind {
	case api.Row:
		f.rowGroups(n, from, to, m)
	case api.Either:
		f.eitherGroups(n, from, to, m)
	case api.Group:
		if hasSpan(n.Number) {
			m[n.Number] = api.Span{From: from, To: to}
		}
		f.groups(n.kids[0], from, to, m)
	case api.Repeat:
		f.repeatGroups(n, from, to, m)
	}
}

func (f *finder) eitherGroups(n *node, from, to int, m *api.Match) {
	for _, kid := range n.kids {
		if f.matches(kid, from, to) {
			f.groups(kid, from, to, m)
			return
		}
	}
}

func (f *finder) rowGroups(n *node, from, to int, m *api.Match) {
	goals := f.rowGoals(n, from, to)
	for k, kid := range n.kids {
		end := f.ends(kid, only(from)).lastIn(goals[k+1])
		f.groups(kid, from, end, m)
		from = end
	}
}

// rowGoals returns for each kid of a row, and for what is behind the last one, where it may begin so that the row matches.
func (f *finder) rowGoals(n *node, from, to int) []indexes {
	goals := []indexes{only(from)}
	for k, kid := range n.kids {
		goals = append(goals, f.ends(kid, goals[k]))
	}
	goals[len(n.kids)] = only(to)
	for k := len(n.kids) - 1; k >= 0; k-- {
		good := since(from)
		for i := goals[k].next(0); i >= 0; i = goals[k].next(i + 1) {
			if f.ends(n.kids[k], only(i)).lastIn(goals[k+1]) >= 0 {
				good.add(i)
			}
		}
		goals[k] = good
	}
	return goals
}

func (f *finder) repeatGroups(n *node, from, to int, m *api.Match) {
	kid, round := n.kids[0], 0
	if from < to {
		goals := f.repeatGoals(n, from, to)
		for from < to {
			round++
			end := f.longerEnds(kid, only(from)).lastIn(goals[min(round, len(goals)-1)])
			f.groups(kid, from, end, m)
			from = end
		}
	}
	// The rounds that lack are an empty one at the end.
	if round < n.Min {
		f.groups(kid, to, to, m)
	}
}

// repeatGoals returns for each number of rounds at which indexes so many may be over so that the repeat matches. The last one holds for greater numbers, too.
func (f *finder) repeatGoals(n *node, from, to int) []indexes {
	next := f.step(n.kids[0])
	last := n.Max
	if n.Max < 0 {
		last = f.least(*n)
	}
	last = min(last, to-from)
	goals := []indexes{only(from)}
	for round := range last {
		goals = append(goals, after(next, goals[round]))
	}
	if n.Max < 0 {
		spread(next, &goals[last])
	}
	for round := last; round >= 0; round-- {
		goals[round] = f.leading(n, goals, round, to)
	}
	return goals
}

// leading returns those of the indexes at which a number of rounds is over from which the repeat comes to its end.
func (f *finder) leading(n *node, goals []indexes, round, to int) indexes {
	kid, s := n.kids[0], goals[round]
	good := since(s.first * wordSize)
	if s.has(to) && (round >= n.Min || f.emptyAt(kid, to)) {
		good.add(to)
	}
	goal := &indexes{}
	switch {
	case round < len(goals)-1:
		goal = &goals[round+1]
	case n.Max < 0:
		// From the last one on: whether those behind it are good is known by then.
		goal = &good
	}
	for i := to - 1; i >= s.first*wordSize; i-- {
		if s.has(i) && f.longerEnds(kid, only(i)).lastIn(*goal) >= 0 {
			good.add(i)
		}
	}
	return good
}
