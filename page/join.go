package page

import "slices"

// joined is what made makes of each size items, one behind the other; false: of some it makes nothing, and those behind them are not asked for.
func joined[T any](items []T, size int, made func([]T) ([]T, bool)) ([]T, bool) {
	var all []T
	for piece := range slices.Chunk(items, size) {
		more, ok := made(piece)
		if !ok {
			return nil, false
		}
		all = append(all, more...)
	}
	return all, true
}
