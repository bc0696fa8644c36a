package poly

import (
	"slices"
	"testing"
)

func TestRoundsAreToldOnceAndAgain(t *testing.T) {
	steps := 0
	r := round[int]{5, func(n int) int { steps++; return (n + 3) % 7 }}
	all := r.all()
	for range 2 {
		if got := slices.Collect(all); !slices.Equal(got, []int{5, 1, 4, 0, 3, 6, 2}) {
			t.Errorf("all: %v", got)
		}
	}
	if got := slices.Collect(round[string]{"a", func(s string) string { return s }}.all()); !slices.Equal(got, []string{"a"}) {
		t.Errorf("a round of one: %v", got)
	}
	steps = 0
	for range all {
		break
	}
	if steps != 0 {
		t.Errorf("%d steps behind the end", steps)
	}
}

func TestLinesTellWhatSaysSomething(t *testing.T) {
	l := line[string]{"", "b", "", "d", ""}
	if got := l.trimmed(); !slices.Equal(got, line[string]{"", "b", "", "d"}) {
		t.Errorf("trimmed: %q", got)
	}
	places, items := []int{}, []string{}
	for at, item := range l.said() {
		places, items = append(places, at), append(items, item)
	}
	if !slices.Equal(places, []int{1, 3}) || !slices.Equal(items, []string{"b", "d"}) {
		t.Errorf("said: %v, %q", places, items)
	}
	for at := range l.said() {
		if at != 1 {
			t.Errorf("said behind the end: %d", at)
		}
		break
	}
}
