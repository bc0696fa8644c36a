package bits

import (
	"slices"
	"testing"
)

func TestItemsAreToldAgainAndAgain(t *testing.T) {
	for _, c := range []struct {
		items  []string
		places int
		want   []string
	}{
		{nil, 0, nil}, {nil, 5, nil}, {[]string{}, 5, nil}, {[]string{"a"}, 0, nil}, {[]string{"a"}, 3, []string{"a", "a", "a"}},
		{[]string{"a", "b"}, 1, []string{"a"}}, {[]string{"a", "b"}, 2, []string{"a", "b"}}, {[]string{"a", "b"}, 5, []string{"a", "b", "a", "b", "a"}},
	} {
		told := again(c.items, c.places)
		for range 2 {
			var got []string
			for at, item := range told {
				if at != len(got) {
					t.Errorf("%v: place %d, want %d", c, at, len(got))
				}
				got = append(got, item)
			}
			if !slices.Equal(got, c.want) {
				t.Errorf("%v: %v", c, got)
			}
		}
	}
}

func TestPlacesAreJoinedInTheirOrder(t *testing.T) {
	var got []string
	for at, item := range joined([]string{"a", "b", "c"}, []string{"x", "y", "z"}, func(x, y string) string { return x + y }) {
		if at != len(got) {
			t.Errorf("place %d, want %d", at, len(got))
		}
		got = append(got, item)
	}
	if !slices.Equal(got, []string{"ax", "by", "cz"}) {
		t.Errorf("joined: %v", got)
	}
}

// A range that goes on behind a break panics.
func TestRangesEndWhereTheyAreLeft(t *testing.T) {
	for at, item := range again([]int{7, 8}, 9) {
		if at == 2 && item == 7 {
			break
		}
	}
	for at := range joined([]int{1, 2}, []int{3, 4}, func(x, y int) int { return x + y }) {
		if at != 0 {
			t.Errorf("joined behind the end: %d", at)
		}
		break
	}
	for k := range ones(slices.All([]byte{0, 6, 1})) {
		if k != 9 {
			t.Errorf("ones behind the end: %d", k)
		}
		break
	}
}

func TestOnesOfBytesThatLeavePlacesOut(t *testing.T) {
	some := func(yield func(int, byte) bool) { _ = yield(2, 3) && yield(5, 128) }
	if got := slices.Collect(ones(some)); !slices.Equal(got, []int{16, 17, 47}) {
		t.Errorf("ones: %v", got)
	}
	if n := count(ones(some)); n != 3 {
		t.Errorf("count: %d", n)
	}
}
