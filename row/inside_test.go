package row

import (
	"slices"
	"testing"
)

func TestSlotsAreAllButTheLastDies(t *testing.T) {
	l := line[string]{"a", "b", "c"}
	for _, c := range []struct {
		dies int
		want []string
	}{{-1, nil}, {0, nil}, {1, nil}, {2, nil}, {3, []string{"a"}}, {4, []string{"a", "b"}}, {5, []string{"a", "b", "c"}}, {7, []string{"a", "b", "c", "", ""}}} {
		var got []string
		for die, item := range l.slots(c.dies) {
			if die != len(got) {
				t.Errorf("of %d dies: %q on die %d", c.dies, item, die)
			}
			got = append(got, item)
		}
		if !slices.Equal(got, c.want) {
			t.Errorf("slots(%d): %q, want %q", c.dies, got, c.want)
		}
	}
	for _, item := range (line[string](nil)).slots(4) {
		if item != "" {
			t.Errorf("of no line: %q", item)
		}
	}
}

// What stands behind a line's end, in its spare room, does not stand on a die.
func TestSlotsEndWithTheLine(t *testing.T) {
	whole := line[int]{5, 6, 7, 8}
	var got []int
	for _, item := range whole[:1].slots(6) {
		got = append(got, item)
	}
	if !slices.Equal(got, []int{5, 0, 0, 0}) {
		t.Errorf("slots: %v", got)
	}
}

func TestSuchAreTheirDies(t *testing.T) {
	even := func(v int) bool { return v%2 == 0 }
	for _, c := range []struct{ l, want []int }{
		{nil, nil}, {[]int{1}, nil}, {[]int{2}, []int{0}}, {[]int{1, 2, 3, 4, 4}, []int{1, 3, 4}}, {[]int{2, 2, 1}, []int{0, 1}},
	} {
		l := line[int](c.l)
		if got := slices.Collect(l.such(even)); !slices.Equal(got, c.want) {
			t.Errorf("such of %v: %v, want %v", c.l, got, c.want)
		}
		if got := l.has(even); got != (len(c.want) > 0) {
			t.Errorf("has of %v: %v", c.l, got)
		}
	}
}

// A range may be left early: nothing is told, nor asked, behind that.
func TestRangesAreLeftEarly(t *testing.T) {
	l := line[int]{1, 2, 3, 4}
	for stop := 1; stop <= 3; stop++ {
		told, asked := 0, 0
		for range l.slots(8) {
			if told++; told == stop {
				break
			}
		}
		for range l.such(func(int) bool { asked++; return true }) {
			if told++; told == 2*stop {
				break
			}
		}
		if told != 2*stop || asked != stop {
			t.Errorf("left at %d: %d told, %d asked", stop, told, asked)
		}
	}
	asked := 0
	if !l.has(func(v int) bool { asked++; return v == 2 }) || asked != 2 {
		t.Errorf("has: %d asked", asked)
	}
}
