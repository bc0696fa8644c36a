package page

import (
	"slices"
	"testing"
)

func TestPiecesAreJoinedInTheirOrder(t *testing.T) {
	for _, c := range []struct {
		items []string
		size  int
		want  []string
	}{
		{nil, 2, nil}, {[]string{}, 2, nil}, {[]string{"a", "b"}, 2, []string{"ab", "2"}},
		{[]string{"a", "b", "c", "d"}, 2, []string{"ab", "2", "cd", "2"}},
		{[]string{"a", "b", "c"}, 1, []string{"a", "1", "b", "1", "c", "1"}},
		{[]string{"a", "b", "c"}, 2, []string{"ab", "2", "c", "1"}},
	} {
		got, ok := joined(c.items, c.size, func(piece []string) ([]string, bool) {
			whole, count := "", '0'
			for _, item := range piece {
				whole += item
				count++
			}
			return []string{whole, string(count)}, true
		})
		if !ok || !slices.Equal(got, c.want) {
			t.Errorf("joined(%q, %d): %q, %v, want %q", c.items, c.size, got, ok, c.want)
		}
	}
}

// What came of the pieces ahead is not told, and those behind are not asked for.
func TestJoinedEndsAtTheFirstThatIsNotMade(t *testing.T) {
	for stop := range 5 {
		asked := 0
		got, ok := joined([]int{0, 1, 2, 3, 4}, 1, func(piece []int) ([]int, bool) {
			asked++
			return piece, piece[0] != stop
		})
		if ok || len(got) != 0 || asked != stop+1 {
			t.Errorf("stop at %d: %v, %v, %d asked for", stop, got, ok, asked)
		}
	}
}

func TestJoinedIsNewMemory(t *testing.T) {
	items := []int{1, 2, 3, 4}
	got, _ := joined(items, 2, func(piece []int) ([]int, bool) { return piece, true })
	for i := range got {
		got[i] = 9
	}
	if !slices.Equal(items, []int{1, 2, 3, 4}) {
		t.Errorf("joined changes what it is handed: %v", items)
	}
}
