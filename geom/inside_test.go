package geom

import (
	"slices"
	"testing"
)

func TestPlacesOfADie(t *testing.T) {
	if got := slices.Collect(places(4, 3)); !slices.Equal(got, [][2]int{{4, 0}, {4, 1}, {4, 2}}) {
		t.Errorf("places: %v", got)
	}
	if got := slices.Collect(places(4, 0)); len(got) != 0 {
		t.Errorf("places of no block: %v", got)
	}
}

func TestWithoutKeepsTheOrder(t *testing.T) {
	for _, c := range []struct{ items, barred, want []string }{
		{nil, nil, nil}, {nil, []string{"a"}, nil},
		{[]string{"b", "a", "c", "a"}, nil, []string{"b", "a", "c", "a"}},
		{[]string{"b", "a", "c", "a"}, []string{"a", "d", "a"}, []string{"b", "c"}},
		{[]string{"b", "a"}, []string{"a", "b"}, nil},
	} {
		if got := slices.Collect(without(slices.Values(c.items), c.barred)); !slices.Equal(got, c.want) {
			t.Errorf("%q without %q: %q, want %q", c.items, c.barred, got, c.want)
		}
	}
}

func TestRanksEndWithTheShortestList(t *testing.T) {
	for _, c := range []struct{ lists, want [][]string }{
		{nil, nil}, {[][]string{nil}, nil}, {[][]string{{"a", "b"}, {}}, nil}, {[][]string{{}, {"a", "b"}}, nil},
		{[][]string{{"a", "b"}}, [][]string{{"a"}, {"b"}}},
		{[][]string{{"a", "b", "c"}, {"d", "e"}, {"f", "g", "h", "i"}}, [][]string{{"a", "d", "f"}, {"b", "e", "g"}}},
	} {
		if got := slices.Collect(ranks(c.lists)); !slices.EqualFunc(got, c.want, slices.Equal) {
			t.Errorf("ranks of %q: %q, want %q", c.lists, got, c.want)
		}
	}
}

// A range may be left early: nothing is told behind that.
func TestRangesAreLeftEarly(t *testing.T) {
	for stop := 1; stop <= 3; stop++ {
		told := 0
		for range places(0, 5) {
			if told++; told == stop {
				break
			}
		}
		for range without(places(0, 5), [][2]int{{0, 0}, {0, 4}}) {
			if told++; told == 2*stop {
				break
			}
		}
		for range ranks([][]int{{1, 2, 3, 4}, {5, 6, 7, 8}}) {
			if told++; told == 3*stop {
				break
			}
		}
		if told != 3*stop {
			t.Errorf("left at %d: %d told", stop, told)
		}
	}
}

func TestRanksAreNewMemory(t *testing.T) {
	lists := [][]int{{1, 2}, {3, 4}}
	for r := range ranks(lists) {
		clear(r)
	}
	if !slices.EqualFunc(lists, [][]int{{1, 2}, {3, 4}}, slices.Equal) {
		t.Errorf("ranks share what they are handed: %v", lists)
	}
}
