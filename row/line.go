package row

import "iter"

// parities is how many of a row's dies hold no slot: the last ones.
const parities = 2

// line is what stands on the dies, one T on each, from the first die on.
type line[T any] []T

// slots tells what stands on the dies that hold slots, of so many dies, each with its number; behind the line's end no T stands, but the zero one.
func (l line[T]) slots(dies int) iter.Seq2[int, T] {
	return func(yield func(int, T) bool) {
		for die := range dies - parities {
			var item T
			if die < len(l) {
				item = l[die]
			}
			if !yield(die, item) {
				return
			}
		}
	}
}

// such tells the dies on which there is one that is so.
func (l line[T]) such(is func(T) bool) iter.Seq[int] {
	return func(yield func(int) bool) {
		for die, item := range l {
			if is(item) && !yield(die) {
				return
			}
		}
	}
}

// has is whether there is one at all that is so.
func (l line[T]) has(is func(T) bool) bool {
	for range l.such(is) {
		return true
	}
	return false
}
