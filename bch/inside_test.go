package bch

import (
	"slices"
	"testing"
)

func TestRuleIsGenerator(t *testing.T) {
	whole := uint64(0)
	for k, number := range Generator() {
		whole |= uint64(number) << k
	}
	if whole != rule {
		t.Errorf("rule: %#x, want %#x", uint64(rule), whole)
	}
}

func TestWalksAreToldAgain(t *testing.T) {
	steps := 0
	first := walk[string]{"a", func(s string) string { steps++; return s + "b" }}.first(3)
	for range 2 {
		var places []int
		var items []string
		for at, item := range first {
			places, items = append(places, at), append(items, item)
		}
		if !slices.Equal(places, []int{0, 1, 2}) || !slices.Equal(items, []string{"a", "ab", "abb"}) {
			t.Errorf("first: %v, %q", places, items)
		}
	}
	steps = 0
	for range first {
		break
	}
	if steps != 0 {
		t.Errorf("%d steps behind the end", steps)
	}
}

func TestBitsFall(t *testing.T) {
	if got := slices.Collect(falling([]byte{1, 0xB0})); !slices.Equal(got, []uint64{1, 0, 1, 1, 0, 0, 0, 0, 0, 0, 0, 0, 0, 0, 0, 1}) {
		t.Errorf("falling: %v", got)
	}
	for range falling([]byte{255}) {
		break
	}
	if got := slices.Collect(falling(nil)); len(got) != 0 {
		t.Errorf("falling of nothing: %v", got)
	}
}

// Whatever is left, no more places are told than may be mended, and none that a word has not.
func TestWrongTellsFewPlaces(t *testing.T) {
	left := uint32(1)
	for range 5000 {
		left = left*1664525 + 1013904223
		places := slices.Collect(wrong(left))
		if len(places) > 3 || !slices.IsSorted(places) || len(places) > 0 && places[len(places)-1] > 223 {
			t.Fatalf("of %#x: %v", left, places)
		}
		for place := range wrong(left) {
			if place != places[0] {
				t.Fatalf("of %#x: %d first, want %d", left, place, places[0])
			}
			break
		}
	}
	if places := slices.Collect(wrong(0)); len(places) != 0 {
		t.Errorf("of nothing: %v", places)
	}
}
