package nand

import (
	"slices"
	"testing"

	"ramekin/api"
)

func TestShelfHasNothingBeyondItsEnds(t *testing.T) {
	s := shelf[int]{10, 11, 12}
	for number, want := range s {
		if p := s.at(number); p != &s[number] || *p != want {
			t.Errorf("at(%d) stands elsewhere", number)
		}
	}
	var none *shelf[int]
	for _, number := range []int{-1, 3, -1 << 63, 1<<63 - 1} {
		if s.at(number) != nil || none.at(number) != nil {
			t.Errorf("at(%d) is something", number)
		}
	}
	if none.at(0) != nil || new(shelf[int]).at(0) != nil {
		t.Error("no shelf has something")
	}
	var nested shelf[shelf[int]]
	if nested.at(0).at(0) != nil {
		t.Error("a shelf that is none has something")
	}
}

func TestShelfTellsThingsWhereTheyStand(t *testing.T) {
	s := shelf[int]{1, 2, 3}
	for p := range s.all() {
		*p *= 10
	}
	if !slices.Equal(s, shelf[int]{10, 20, 30}) {
		t.Errorf("all: %v", s)
	}
	// A range that goes on behind a break panics.
	for p := range s.all() {
		if *p == 20 {
			break
		}
	}
	for range new(shelf[int]).all() {
		t.Error("an empty shelf has something")
	}
}

// What is kept of noise and of a mask is bounded by a page, however long they are.
func TestWhatIsKeptIsNoLongerThanAPage(t *testing.T) {
	n, _ := New(api.Geometry{Dies: 6, Blocks: 8, Pages: 4}, nil)
	n.Noise(0, 0, 0, slices.Repeat([]int{5, 6, 480, -1, 5}, 1001))
	if kept := n.dies[0][0].pages[0].noise; !slices.Equal(kept, []int{6}) {
		t.Errorf("noise: %v", kept)
	}
	n.Stop(3, make([]byte, 1000))
	if len(n.stop.mask) != api.Raw {
		t.Errorf("mask: %d bytes", len(n.stop.mask))
	}
	n.Stop(0, make([]byte, 10))
	if n.stop.mask != nil || n.stop.left != 0 {
		t.Error("a Stop that is none is kept")
	}
}
