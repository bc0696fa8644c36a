package poly

import "iter"

// line is items in a row, of which the zero value says nothing.
type line[T comparable] []T

// trimmed is l's own front, up to the last item that says something.
func (l line[T]) trimmed() line[T] {
	var nothing T
	end := len(l)
	for end > 0 && l[end-1] == nothing {
		end--
	}
	return l[:end]
}

// said tells the items that say something, and where they are, from the front on.
func (l line[T]) said() iter.Seq2[int, T] {
	return func(yield func(int, T) bool) {
		var nothing T
		for at, item := range l {
			if item != nothing && !yield(at, item) {
				return
			}
		}
	}
}
