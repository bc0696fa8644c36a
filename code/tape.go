package code

// tape is items of which each new one goes to the end, and the first one is taken next.
type tape[T any] struct{ items []T }

// tapeOf copies: what is handed in is neither kept nor written into, so room for more is made here too.
func tapeOf[T any](items []T, more int) tape[T] {
	own := make([]T, len(items), len(items)+more)
	copy(own, items)
	return tape[T]{own}
}

func (t *tape[T]) put(item T) { t.items = append(t.items, item) }

// take answers the zero value where nothing is left, so that it never panics.
func (t *tape[T]) take() T {
	var first T
	if len(t.items) > 0 {
		first = t.items[0]
		t.items = t.items[1:]
	}
	return first
}

func (t *tape[T]) left() int { return len(t.items) }
