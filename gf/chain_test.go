package gf

import (
	"slices"
	"testing"
)

func TestChainsAreToldAgain(t *testing.T) {
	c := chain[int]{3, func(n int) int { return n + 1 }}
	first, picked := c.first(3), c.picked(0b1101)
	for range 2 {
		if got := slices.Collect(first); !slices.Equal(got, []int{3, 4, 5}) {
			t.Errorf("first: %v", got)
		}
		if got := slices.Collect(picked); !slices.Equal(got, []int{3, 5, 6}) {
			t.Errorf("picked: %v", got)
		}
	}
	if got := slices.Collect(c.picked(0)); len(got) != 0 {
		t.Errorf("picked by no bit: %v", got)
	}
}

func TestChainsEndWhereTheyAreLeft(t *testing.T) {
	steps := 0
	c := chain[int]{0, func(n int) int { steps++; return n + 1 }}
	for range c.first(100) {
		break
	}
	for range c.picked(^uint(0)) {
		break
	}
	if steps != 0 {
		t.Errorf("%d steps behind the end", steps)
	}
}
