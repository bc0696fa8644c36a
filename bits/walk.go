package bits

import "iter"

// ones tells which bits are 1, rising, of bytes that come in their order.
func ones(b iter.Seq2[int, byte]) iter.Seq[int] {
	return func(yield func(int) bool) {
		for at, x := range b {
			for k := range perByte {
				if x>>k&1 == 1 && !yield(at*perByte+k) {
					return
				}
			}
		}
	}
}

// joined tells what join makes of each two items that stand at one place; b is no shorter than a.
func joined[T any](a, b []T, join func(T, T) T) iter.Seq2[int, T] {
	return func(yield func(int, T) bool) {
		for at, item := range a {
			if !yield(at, join(item, b[at])) {
				return
			}
		}
	}
}

// again tells the items over and over, each with its place, till places are filled; nothing, if there are none.
func again[T any](items []T, places int) iter.Seq2[int, T] {
	return func(yield func(int, T) bool) {
		if len(items) == 0 {
			return
		}
		for at := range places {
			if !yield(at, items[at%len(items)]) {
				return
			}
		}
	}
}

func count[T any](all iter.Seq[T]) int {
	n := 0
	for range all {
		n++
	}
	return n
}
