package poly

import "iter"

// round is items of which each one leads to the next, and the last one back to start.
type round[T comparable] struct {
	start T
	next  func(T) T
}

// all tells each of them once, start first.
func (r round[T]) all() iter.Seq[T] {
	return func(yield func(T) bool) {
		for item := r.start; yield(item); {
			item = r.next(item)
			if item == r.start {
				return
			}
		}
	}
}
