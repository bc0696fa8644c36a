package nand

import "iter"

// shelf is things that stand side by side, numbered from 0 on: dies, a die's blocks, a block's pages.
type shelf[T any] []T

// at is a thing where it stands; nil, if there is none, or no shelf: so a die that is none has no block either.
func (s *shelf[T]) at(number int) *T {
	if s == nil || number < 0 || number >= len(*s) {
		return nil
	}
	return &(*s)[number]
}

// all tells the things where they stand, so that they can be changed there.
func (s *shelf[T]) all() iter.Seq[*T] {
	return func(yield func(*T) bool) {
		for number := range *s {
			if !yield(s.at(number)) {
				return
			}
		}
	}
}
