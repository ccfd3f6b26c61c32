package program

import "headgate/api"

// closeBraces sets the jump of each { to the } that closes it. It returns the first } that closes nothing, or else the last { that is not closed, or else none.
func closeBraces(jumps []int, l []api.Command) int {
	var open []int
	i := 0
next:
	if i == len(l) {
		return top(open)
	}
	switch l[i].Name {
	case '{':
		open = append(open, i)
	case '}':
		begin := top(open)
		if begin == none {
			return i
		}
		jumps[begin] = i
		open = open[:len(open)-1]
	}
	i++
	goto next
}

// top returns what was put on a stack last, or none.
func top(stack []int) int {
	if len(stack) == 0 {
		return none
	}
	return stack[len(stack)-1]
}

// resolveLabels sets the jump of each b and t to its label, or to the end. It returns the first label that stands there a second time, or else the first b or t whose label is missing, or else none.
func resolveLabels(jumps []int, l []api.Command) int {
	labels := make(map[string]int)
	for i, c := range l {
		if c.Name != ':' {
			continue
		}
		if _, twice := labels[c.Text]; twice {
			return i
		}
		labels[c.Text] = i
	}
	for i, c := range l {
		if c.Name != 'b' && c.Name != 't' {
			continue
		}
		jumps[i] = len(l)
		if c.Text == "" { // the end, though a label may have no text either
			continue
		}
		label, ok := labels[c.Text]
		if !ok {
			return i
		}
		jumps[i] = label
	}
	return none
}
