package address_test

import (
	"testing"

	"headgate/address"
	"headgate/api"
)

// toldHolds tells by the chapter's words whether an address holds at a look in which its pattern matches, or doesn't.
func toldHolds(a api.Address, matches bool, x address.Look) bool {
	pattern := a.Kind == api.Pattern || a.Kind == api.Again
	return a.Kind == api.NoAddress || a.Kind == api.Line && a.Line == x.Number || a.Kind == api.Last && x.Last || pattern && matches
}

// toldSelects is what Selects should answer.
func toldSelects(c api.Command, open bool, x address.Look) (bool, bool) {
	first, second := toldHolds(c.From, x.First, x), toldHolds(c.To, x.Second, x)
	two := c.To.Kind != api.NoAddress
	reached := c.To.Kind == api.Line && c.To.Line <= x.Number
	in := first
	after := false
	if two && !open && first {
		after = !(reached || c.To.Kind == api.Last && x.Last)
	}
	if two && open {
		in = true
		after = !(second || reached)
	}
	if c.Not {
		return !in, after
	}
	return in, after
}

// toldNeeds is what Needs should answer.
func toldNeeds(c api.Command, open bool) (bool, bool) {
	first := c.From.Kind == api.Pattern || c.From.Kind == api.Again
	second := c.To.Kind == api.Pattern || c.To.Kind == api.Again
	return first && (!open || c.To.Kind == api.NoAddress), second && open
}

// checkTold holds both calls against the chapter's words, and what is not needed turned both ways.
func checkTold(t testing.TB, c api.Command, open bool, x address.Look) {
	t.Helper()
	in, after := toldSelects(c, open, x)
	first, second := toldNeeds(c, open)
	if f, s := address.Needs(c, open); f != first || s != second {
		t.Fatalf("Needs(%s, %v): %v, %v; want %v, %v", short(c), open, f, s, first, second)
	}
	for turned := range 4 {
		y := x
		if turned&1 != 0 && !first {
			y.First = !x.First
		}
		if turned&2 != 0 && !second {
			y.Second = !x.Second
		}
		if i, a := address.Selects(c, open, y); i != in || a != after {
			t.Fatalf("Selects(%s, %v, %+v): %v, %v; want %v, %v", short(c), open, y, i, a, in, after)
		}
	}
}

// toldRange is what a range selects of whole runs of lines, told range by range: from a line at which the first address holds to the one that ends it, then on behind that. The texts tell in which lines the patterns match.
func toldRange(c api.Command, n int, first, second string) string {
	look := func(k int) address.Look {
		return address.Look{Number: k + 1, Last: k == n-1}
	}
	var in []bool
	for k := 0; k < n; k++ {
		if !toldHolds(c.From, marked(first, k), look(k)) {
			in = append(in, false)
			continue
		}
		end := k
		alone := c.To.Kind == api.NoAddress || c.To.Kind == api.Line && c.To.Line <= k+1
		for !alone && end < n-1 {
			end++
			if toldHolds(c.To, marked(second, end), look(end)) {
				break
			}
		}
		for ; k <= end; k++ {
			in = append(in, true)
		}
		k--
	}
	s := ""
	for _, i := range in {
		s += mark(i != c.Not)
	}
	return s
}
