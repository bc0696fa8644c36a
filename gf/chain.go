package gf

import "iter"

// chain is items of which each one makes the next: it has no end of its own.
type chain[T any] struct {
	start T
	next  func(T) T
}

// first tells the first count of them.
func (c chain[T]) first(count int) iter.Seq[T] {
	return func(yield func(T) bool) {
		item := c.start
		for range count {
			if !yield(item) {
				return
			}
			item = c.next(item)
		}
	}
}

// picked tells those whose bit of mask is set: the lowest bit is the first one's.
func (c chain[T]) picked(mask uint) iter.Seq[T] {
	return func(yield func(T) bool) {
		item := c.start
		for left := mask; left != 0; left >>= 1 {
			if left&1 != 0 && !yield(item) {
				return
			}
			item = c.next(item)
		}
	}
}
