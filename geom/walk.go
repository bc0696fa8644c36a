package geom

import (
	"iter"
	"slices"
)

// places are a die's blocks, named as a list of bad ones names them.
func places(die, blocks int) iter.Seq[[2]int] {
	return func(yield func([2]int) bool) {
		for block := range blocks {
			if !yield([2]int{die, block}) {
				return
			}
		}
	}
}

// without are the items that are not barred, in their order.
func without[T comparable](items iter.Seq[T], barred []T) iter.Seq[T] {
	return func(yield func(T) bool) {
		for item := range items {
			if !slices.Contains(barred, item) && !yield(item) {
				return
			}
		}
	}
}

// ranks are the first items of all lists, then the second ones, and so on, till a list has no more.
func ranks[T any](lists [][]T) iter.Seq[[]T] {
	return func(yield func([]T) bool) {
		for i := 0; ; i++ {
			r := rank(lists, i)
			if len(r) == 0 || !yield(r) {
				return
			}
		}
	}
}

// rank are the i-th items of all lists; nothing, if one of these lacks it.
func rank[T any](lists [][]T, i int) []T {
	var all []T
	for _, l := range lists {
		if i >= len(l) {
			return nil
		}
		all = append(all, l[i])
	}
	return all
}
