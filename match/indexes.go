package match

import "math/bits"

// wordSize is how many indexes a word tells of.
const wordSize = 64

// indexes is a set of indexes of a text. It has no words for what is ahead of the first one, so that a few indexes far behind in a long text take a few words. A set that was handed out is not changed any more, and may be shared.
type indexes struct {
	first int // which of the text's words is the first one here
	words []uint64
}

// since is an empty set, to which only indexes from i on may be added.
func since(i int) indexes {
	return indexes{first: i / wordSize}
}

// only is the set of i alone.
func only(i int) indexes {
	s := since(i)
	s.add(i)
	return s
}

// between is the set of the indexes from one on, up to another one.
func between(from, to int) indexes {
	s := since(from)
	for i := from; i < to; i++ {
		s.add(i)
	}
	return s
}

// both is the set of what is in the one set or in the other.
func both(a, b indexes) indexes {
	if len(a.words) == 0 {
		return b
	}
	if len(b.words) == 0 {
		return a
	}
	s := indexes{first: min(a.first, b.first)}
	s.addAll(a)
	s.addAll(b)
	return s
}

// word returns one of the text's words, 0 if the set has nothing there.
func (s indexes) word(number int) uint64 {
	at := number - s.first
	if at < 0 || at >= len(s.words) {
		return 0
	}
	return s.words[at]
}

// has tells whether i is in the set.
func (s indexes) has(i int) bool {
	return s.word(i/wordSize)>>(i%wordSize)&1 == 1
}

// next returns the least index in the set that is not less than i, -1 if there is none.
func (s indexes) next(i int) int {
	number := i / wordSize
	word := s.word(number) >> (i % wordSize) << (i % wordSize)
	for word == 0 {
		number = max(number+1, s.first)
		if number >= s.first+len(s.words) {
			return -1
		}
		word = s.word(number)
	}
	return number*wordSize + bits.TrailingZeros64(word)
}

// empty tells whether nothing is in the set.
func (s indexes) empty() bool {
	return s.next(0) < 0
}

// alone returns the only index in the set, and whether there is only one.
func (s indexes) alone() (int, bool) {
	i := s.next(0)
	return i, i >= 0 && s.next(i+1) < 0
}

// lastIn returns the greatest index that is in both sets, -1 if there is none.
func (s indexes) lastIn(other indexes) int {
	for at := len(s.words) - 1; at >= 0; at-- {
		number := s.first + at
		if word := s.words[at] & other.word(number); word != 0 {
			return number*wordSize + bits.Len64(word) - 1
		}
	}
	return -1
}

// grow gives the set n words at least.
func (s *indexes) grow(n int) {
	if n > len(s.words) {
		s.words = append(s.words, make([]uint64, n-len(s.words))...)
	}
}

// add adds i.
func (s *indexes) add(i int) {
	at := i/wordSize - s.first
	s.grow(at + 1)
	s.words[at] |= 1 << (i % wordSize)
}

// addAll adds what is in another set.
func (s *indexes) addAll(other indexes) {
	if len(other.words) == 0 {
		return
	}
	at := other.first - s.first
	s.grow(at + len(other.words))
	for k, word := range other.words {
		s.words[at+k] |= word
	}
}

// drop removes what is in another set.
func (s *indexes) drop(other indexes) {
	for at := range s.words {
		s.words[at] &^= other.word(s.first + at)
	}
}
