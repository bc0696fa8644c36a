package bch

import "iter"

// walk is items of which each one makes the next.
type walk[T any] struct {
	start T
	next  func(T) T
}

// first tells the first count of them, each with how many are ahead of it.
func (w walk[T]) first(count int) iter.Seq2[int, T] {
	return func(yield func(int, T) bool) {
		item := w.start
		for at := range count {
			if !yield(at, item) {
				return
			}
			item = w.next(item)
		}
	}
}
