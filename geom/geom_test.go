package geom_test

import (
	"math"
	"slices"
	"testing"

	"ramekin/api"
	"ramekin/geom"
	"ramekin/nand"
)

func TestP901CheckEachNumberOfAGeometry(t *testing.T) {
	for _, g := range everyGeometry() {
		if e := geom.Check(g); e != api.OK {
			t.Errorf("Check(%v): %v", g, e)
		}
	}
	for _, g := range noGeometries() {
		if e := geom.Check(g); e != api.ErrArg {
			t.Errorf("Check(%v): %v, want ErrArg", g, e)
		}
	}
}

// Check allows what flash can be made of, and nothing else.
func TestP901CheckIsAsNewWantsIt(t *testing.T) {
	for dies := 4; dies <= 10; dies++ {
		for blocks := 6; blocks <= 14; blocks++ {
			for pages := 2; pages <= 10; pages++ {
				g := api.Geometry{Dies: dies, Blocks: blocks, Pages: pages}
				if _, e := nand.New(g, nil); geom.Check(g) != e {
					t.Errorf("Check(%v): %v, New: %v", g, geom.Check(g), e)
				}
			}
		}
	}
}

func TestP901OfNoGeometryNothing(t *testing.T) {
	for _, g := range noGeometries() {
		for _, bad := range [][][2]int{nil, {{0, 0}}, {{9, 9}, {-1, -1}}} {
			wantSupers(t, g, bad, nil)
		}
		for _, supers := range []int{0, 7, 8, 12, g.Blocks} {
			if got := geom.Sectors(g, supers); got != 0 {
				t.Errorf("Sectors(%v, %d): %d", g, supers, got)
			}
		}
		if got := geom.Slots(g); got != 0 {
			t.Errorf("Slots(%v): %d", g, got)
		}
	}
}

func TestP901SupersWithoutBadBlocks(t *testing.T) {
	for _, g := range everyGeometry() {
		want := straight(g.Dies, run(g.Blocks)...)
		wantSupers(t, g, nil, want)
		wantSupers(t, g, [][2]int{}, want)
	}
}

func TestP901SupersByHand(t *testing.T) {
	for _, c := range []struct {
		bad  [][2]int
		want [][]int
	}{
		{[][2]int{{0, 0}}, [][]int{{1, 0, 0, 0, 0, 0}, {2, 1, 1, 1, 1, 1}, {3, 2, 2, 2, 2, 2}, {4, 3, 3, 3, 3, 3}, {5, 4, 4, 4, 4, 4}, {6, 5, 5, 5, 5, 5}, {7, 6, 6, 6, 6, 6}}},
		{[][2]int{{5, 7}}, straight(6, 0, 1, 2, 3, 4, 5, 6)},
		{[][2]int{{5, 0}}, [][]int{{0, 0, 0, 0, 0, 1}, {1, 1, 1, 1, 1, 2}, {2, 2, 2, 2, 2, 3}, {3, 3, 3, 3, 3, 4}, {4, 4, 4, 4, 4, 5}, {5, 5, 5, 5, 5, 6}, {6, 6, 6, 6, 6, 7}}},
		{[][2]int{{2, 3}}, [][]int{{0, 0, 0, 0, 0, 0}, {1, 1, 1, 1, 1, 1}, {2, 2, 2, 2, 2, 2}, {3, 3, 4, 3, 3, 3}, {4, 4, 5, 4, 4, 4}, {5, 5, 6, 5, 5, 5}, {6, 6, 7, 6, 6, 6}}},
		// Several on one die, in no order.
		{[][2]int{{1, 6}, {1, 0}, {1, 3}, {1, 1}}, [][]int{{0, 2, 0, 0, 0, 0}, {1, 4, 1, 1, 1, 1}, {2, 5, 2, 2, 2, 2}, {3, 7, 3, 3, 3, 3}}},
		// As many on each die: the same one, and others.
		{[][2]int{{0, 4}, {1, 4}, {2, 4}, {3, 4}, {4, 4}, {5, 4}}, straight(6, 0, 1, 2, 3, 5, 6, 7)},
		{[][2]int{{5, 5}, {4, 4}, {3, 3}, {2, 2}, {1, 1}, {0, 0}}, [][]int{{1, 0, 0, 0, 0, 0}, {2, 2, 1, 1, 1, 1}, {3, 3, 3, 2, 2, 2}, {4, 4, 4, 4, 3, 3}, {5, 5, 5, 5, 5, 4}, {6, 6, 6, 6, 6, 6}, {7, 7, 7, 7, 7, 7}}},
		// Named twice it is one.
		{[][2]int{{4, 1}, {4, 1}, {4, 1}}, [][]int{{0, 0, 0, 0, 0, 0}, {1, 1, 1, 1, 2, 1}, {2, 2, 2, 2, 3, 2}, {3, 3, 3, 3, 4, 3}, {4, 4, 4, 4, 5, 4}, {5, 5, 5, 5, 6, 5}, {6, 6, 6, 6, 7, 6}}},
		// One good block on one die.
		{[][2]int{{3, 0}, {3, 1}, {3, 2}, {3, 3}, {3, 4}, {3, 5}, {3, 7}}, [][]int{{0, 0, 0, 6, 0, 0}}},
	} {
		wantSupers(t, least, c.bad, c.want)
	}
}

func TestP901WhatIsNoBlocksDoesNotCount(t *testing.T) {
	for _, g := range []api.Geometry{least, odd, most} {
		all := straight(g.Dies, run(g.Blocks)...)
		d, b := g.Dies, g.Blocks
		none := [][2]int{{-1, 0}, {0, -1}, {-1, -1}, {d, 0}, {0, b}, {d, b}, {d - 1, b}, {d, b - 1}, {0, b + 3}, {1, -b}, {math.MinInt64, 0}, {0, math.MaxInt64}, {1 << 32, 0}, {0, 1 << 32}}
		for _, place := range none {
			wantSupers(t, g, [][2]int{place}, all)
		}
		wantSupers(t, g, none, all)
		beside := append(slices.Clone(none), [2]int{1, 2})
		wantSupers(t, g, beside, plainSupers(g, [][2]int{{1, 2}}))
		wantSupers(t, g, append([][2]int{{1, 2}}, none...), plainSupers(g, [][2]int{{1, 2}}))
	}
}

func TestP901SupersOfWholeDiesThatAreBad(t *testing.T) {
	for _, g := range []api.Geometry{least, odd, most} {
		for die := range g.Dies {
			whole := wholeDie(g, die)
			wantSupers(t, g, whole, nil)
			wantSupers(t, g, append(slices.Clone(whole), whole...), nil)
			wantSupers(t, g, whole[1:], [][]int{make([]int, g.Dies)})
		}
		wantSupers(t, g, everyBlock(g), nil)
	}
}

func TestP901SupersOfAnyBadBlocks(t *testing.T) {
	for _, g := range everyGeometry() {
		for _, bad := range someBad(g) {
			wantSupers(t, g, bad, plainSupers(g, bad))
		}
	}
}

// A superblock is one block of each die, and they rise on each.
func TestP902NoBlockTwiceAndNoneThatIsBad(t *testing.T) {
	for _, g := range everyGeometry() {
		for _, bad := range someBad(g) {
			in := map[[2]int]int{}
			for i, blocks := range geom.Supers(g, bad) {
				if len(blocks) != g.Dies {
					t.Fatalf("Supers(%v, %v): superblock %d: %v", g, bad, i, blocks)
				}
				for die, block := range blocks {
					place := [2]int{die, block}
					in[place]++
					if in[place] > 1 || slices.Contains(bad, place) || block < 0 || block >= g.Blocks {
						t.Fatalf("Supers(%v, %v): %v in superblock %d", g, bad, place, i)
					}
				}
			}
		}
	}
}

// No superblock of flash with these bad blocks is refused.
func TestP902EachBlockOfASuperblockCanBeErased(t *testing.T) {
	bad := [][2]int{{0, 0}, {0, 8}, {3, 4}, {6, 8}, {3, 5}}
	n, e := nand.New(odd, bad)
	if e != api.OK {
		t.Fatal(e)
	}
	for _, blocks := range geom.Supers(odd, bad) {
		for die, block := range blocks {
			if e := n.Erase(die, block); e != api.OK || n.Erases(die, block) != 1 {
				t.Errorf("Erase(%d, %d): %v, %d times", die, block, e, n.Erases(die, block))
			}
		}
	}
	if n.Ops() != 7*7 || n.Wrong() != 0 {
		t.Errorf("%d erased, %d refused", n.Ops(), n.Wrong())
	}
}

func TestP901SectorsByHand(t *testing.T) {
	for _, c := range []struct{ dies, blocks, pages, supers, want int }{
		{6, 8, 4, 8, 8}, {6, 8, 4, 7, 6}, {6, 12, 4, 12, 16}, {6, 8, 8, 8, 24}, {8, 8, 4, 8, 12}, {8, 12, 8, 12, 72},
		{7, 9, 5, 9, 18}, {7, 9, 5, 7, 11}, {7, 9, 5, 8, 15}, {7, 8, 4, 7, 7}, {7, 11, 7, 11, 43}, {7, 12, 8, 7, 22}, {8, 8, 5, 7, 13}, {8, 11, 7, 11, 52}, {8, 9, 7, 7, 22},
		{6, 8, 4, 9, 0}, {6, 8, 4, 6, 0}, {6, 8, 4, 5, 0}, {6, 8, 4, 4, 0}, {6, 8, 4, 0, 0}, {6, 8, 4, -1, 0}, {8, 12, 8, 13, 0}, {8, 12, 8, 6, 0}, {7, 11, 7, 12, 0},
	} {
		g := api.Geometry{Dies: c.dies, Blocks: c.blocks, Pages: c.pages}
		if got := geom.Sectors(g, c.supers); got != c.want {
			t.Errorf("Sectors(%v, %d): %d, want %d", g, c.supers, got, c.want)
		}
	}
}

// quarter is how often 4 can be taken away.
func quarter(number int) int {
	count := 0
	for ; number >= 4; number -= 4 {
		count++
	}
	return count
}

func TestP901SectorsOfEachGeometry(t *testing.T) {
	for _, g := range everyGeometry() {
		for supers := -9; supers <= 20; supers++ {
			want := 0
			if supers >= 7 && supers <= g.Blocks {
				want = quarter((supers - 4) * (g.Pages - 2) * (g.Dies - 2))
			}
			if got := geom.Sectors(g, supers); got != want {
				t.Errorf("Sectors(%v, %d): %d, want %d", g, supers, got, want)
			}
		}
		for _, supers := range []int{math.MaxInt64, math.MinInt64, 1<<32 + 8, 1 << 62, -1 << 62} {
			if got := geom.Sectors(g, supers); got != 0 {
				t.Errorf("Sectors(%v, %d): %d", g, supers, got)
			}
		}
	}
}

func TestP901Slots(t *testing.T) {
	for _, g := range everyGeometry() {
		want := []int{4, 5, 6}[g.Dies-6]
		if got := geom.Slots(g); got != want {
			t.Errorf("Slots(%v): %d, want %d", g, got, want)
		}
	}
}

func TestExample1(t *testing.T) {
	if got := geom.Sectors(least, len(geom.Supers(least, nil))); got != 8 {
		t.Errorf("6 dies, 8 blocks, 4 pages: %d sectors", got)
	}
}
