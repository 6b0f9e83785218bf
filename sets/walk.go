package sets

import "cmp"

// walk goes along a rising list, of which it keeps what is left.
type walk[T cmp.Ordered] struct {
	left []T
}

// below takes the numbers below x.
func (w *walk[T]) below(x T) []T {
	n := 0
	for n < len(w.left) && w.left[n] < x {
		n++
	}
	l := w.left[:n]
	w.left = w.left[n:]
	return l
}

// has goes past x, and tells whether it was there.
func (w *walk[T]) has(x T) bool {
	w.below(x)
	if len(w.left) == 0 || w.left[0] != x {
		return false
	}
	w.left = w.left[1:]
	return true
}

// kept takes all numbers, and tells those that are asked for.
func (w *walk[T]) kept(asked func(x T) bool) []T {
	var l []T
	for _, x := range w.left {
		if asked(x) {
			l = append(l, x)
		}
	}
	w.left = nil
	return l
}

// merged tells the numbers of two lists.
func merged[T cmp.Ordered](a, b []T) []T {
	l := make([]T, 0, len(a)+len(b))
	w := walk[T]{b}
	for _, x := range a {
		l = append(l, w.below(x)...)
		w.has(x) // a number of both is told once
		l = append(l, x)
	}
	return append(l, w.left...)
}

// several goes along a list, whose walk it embeds, and along others beside it.
type several[T cmp.Ordered] struct {
	walk[T]
	others []walk[T]
}

// along begins to go along lists.
func along[T cmp.Ordered](l []T, others ...[]T) *several[T] {
	s := &several[T]{walk: walk[T]{l}}
	for _, o := range others {
		s.others = append(s.others, walk[T]{o})
	}
	return s
}

// allHave goes past x in the other lists, up to one that hasn't it, and tells whether all have it.
func (s *several[T]) allHave(x T) bool {
	for i := range s.others {
		if !s.others[i].has(x) {
			return false
		}
	}
	return true
}

// noneHas goes past x in the other lists, up to one that has it, and tells whether none has it.
func (s *several[T]) noneHas(x T) bool {
	for i := range s.others {
		if s.others[i].has(x) {
			return false
		}
	}
	return true
}
