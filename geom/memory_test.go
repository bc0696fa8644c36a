package geom_test

import (
	"slices"
	"testing"

	"ramekin/api"
	"ramekin/geom"
)

// roomy is l with spare room behind it, and the whole of it.
func roomy(l [][2]int) (front, whole [][2]int) {
	whole = append(slices.Clone(l), slices.Repeat([][2]int{{1, 1}}, 100)...)
	return whole[:len(l)], whole
}

// spoil fills a list, its spare room too.
func spoil(l []int) {
	l = l[:cap(l)]
	for i := range l {
		l[i] ^= 0x5A
	}
}

// deep is a copy that shares nothing.
func deep(l [][]int) [][]int {
	var all [][]int
	for _, of := range l {
		all = append(all, slices.Clone(of))
	}
	return all
}

func TestP2WhatWasHandedInStaysAndIsNotKept(t *testing.T) {
	for _, g := range []api.Geometry{least, odd, most, {}, {Dies: 5, Blocks: 8, Pages: 4}} {
		for _, bad := range someBad(odd) {
			front, whole := roomy(bad)
			was := slices.Clone(whole)
			got := geom.Supers(g, front)
			want := deep(got)
			if !slices.Equal(whole, was) {
				t.Fatalf("Supers(%v, %v): what was handed in changed: %v", g, bad, whole)
			}
			for i := range whole {
				whole[i] = [2]int{5, 5}
			}
			if !sameLists(got, want) {
				t.Fatalf("Supers(%v, %v) hangs on what was handed in", g, bad)
			}
		}
	}
}

// What stands behind a list is not of it.
func TestP2SpareRoomIsNotRead(t *testing.T) {
	whole := [][2]int{{0, 0}, {1, 1}, {2, 2}}
	for count := range 4 {
		wantSupers(t, least, whole[:count], plainSupers(least, slices.Clone(whole[:count])))
	}
}

func TestP2NoTwoListsShareMemory(t *testing.T) {
	for _, g := range []api.Geometry{least, odd, most} {
		for _, bad := range someBad(g) {
			got := geom.Supers(g, bad)
			want := deep(got)
			for i := range got {
				spoil(got[i])
				if !sameLists(got[i+1:], want[i+1:]) {
					t.Fatalf("Supers(%v, %v): superblock %d shares memory with one behind it", g, bad, i)
				}
			}
		}
	}
}

func TestP2SpareRoomOfAnAnswerIsItsOwn(t *testing.T) {
	got := geom.Supers(most, nil)
	want := deep(got)
	for i := len(got) - 1; i >= 0; i-- {
		spoil(got[i])
		if !sameLists(got[:i], want[:i]) {
			t.Fatalf("superblock %d shares memory with one ahead of it", i)
		}
	}
}

func TestP3TheSameCallsAnswerTheSame(t *testing.T) {
	for _, g := range []api.Geometry{least, odd, most} {
		for _, bad := range someBad(g) {
			once := deep(geom.Supers(g, bad))
			for range 3 {
				wantSupers(t, g, bad, once)
				got := geom.Supers(g, bad)
				for i := range got {
					spoil(got[i]) // the next answer is another one's memory
				}
				clear(got[:cap(got)])
			}
		}
		sectors, slots := geom.Sectors(g, 7), geom.Slots(g)
		for range 3 {
			if geom.Check(g) != api.OK || geom.Sectors(g, 7) != sectors || geom.Slots(g) != slots {
				t.Errorf("of %v another answer than ahead", g)
			}
		}
	}
}
