package geom_test

import (
	"math"
	"slices"
	"testing"

	"ramekin/api"
	"ramekin/geom"
)

// dice throw the same numbers in each run.
type dice struct{ n uint64 }

func (d *dice) of(k int) int {
	d.n = d.n*6364136223846793005 + 1442695040888963407
	return int(d.n>>33) % k
}

// places are any that bad blocks may be told at, some of them of no block.
func (d *dice) places(g api.Geometry, count int) [][2]int {
	l := make([][2]int, count)
	for i := range l {
		l[i] = [2]int{d.of(g.Dies+4) - 2, d.of(g.Blocks+4) - 2}
	}
	return l
}

var (
	least = api.Geometry{Dies: 6, Blocks: 8, Pages: 4}
	odd   = api.Geometry{Dies: 7, Blocks: 9, Pages: 5}
	most  = api.Geometry{Dies: 8, Blocks: 12, Pages: 8}
)

// everyGeometry are all that there may be.
func everyGeometry() []api.Geometry {
	var all []api.Geometry
	for dies := 6; dies <= 8; dies++ {
		for blocks := 8; blocks <= 12; blocks++ {
			for pages := 4; pages <= 8; pages++ {
				all = append(all, api.Geometry{Dies: dies, Blocks: blocks, Pages: pages})
			}
		}
	}
	return all
}

// noGeometries have one number, two, or all out of their bounds.
func noGeometries() []api.Geometry {
	far := []int{0, 1, -1, -6, -8, 1 << 32, 1<<32 + 8, -1 << 32, math.MaxInt64, math.MinInt64}
	all := []api.Geometry{{}, {Dies: 5, Blocks: 7, Pages: 3}, {Dies: 9, Blocks: 13, Pages: 9}, {Dies: 5, Blocks: 13, Pages: 4}, {Dies: 6, Blocks: 7, Pages: 9}, {Dies: 9, Blocks: 8, Pages: 3}, {Dies: -6, Blocks: -8, Pages: -4}, {Dies: 12, Blocks: 8, Pages: 6}}
	for _, right := range []api.Geometry{least, odd, most} {
		for _, dies := range append([]int{5, 9}, far...) {
			all = append(all, api.Geometry{Dies: dies, Blocks: right.Blocks, Pages: right.Pages})
		}
		for _, blocks := range append([]int{7, 13}, far...) {
			all = append(all, api.Geometry{Dies: right.Dies, Blocks: blocks, Pages: right.Pages})
		}
		for _, pages := range append([]int{3, 9}, far...) {
			all = append(all, api.Geometry{Dies: right.Dies, Blocks: right.Blocks, Pages: pages})
		}
	}
	return all
}

// plainSupers is the document's: the bad blocks struck out of each die, and then the i-th of those that are left.
func plainSupers(g api.Geometry, bad [][2]int) [][]int {
	left := make([][]int, g.Dies)
	fewest := g.Blocks
	for die := range left {
		struck := make([]bool, g.Blocks)
		for _, place := range bad {
			if place[0] == die && place[1] >= 0 && place[1] < g.Blocks {
				struck[place[1]] = true
			}
		}
		for block, is := range struck {
			if !is {
				left[die] = append(left[die], block)
			}
		}
		fewest = min(fewest, len(left[die]))
	}
	all := make([][]int, fewest)
	for i := range all {
		for die := range left {
			all[i] = append(all[i], left[die][i])
		}
	}
	return all
}

func sameLists(a, b [][]int) bool { return slices.EqualFunc(a, b, slices.Equal) }

func wantSupers(t *testing.T, g api.Geometry, bad [][2]int, want [][]int) {
	t.Helper()
	if got := geom.Supers(g, bad); !sameLists(got, want) {
		t.Fatalf("Supers(%v, %v): %v, want %v", g, bad, got, want)
	}
}

// straight are superblocks of the blocks of these numbers, on so many dies.
func straight(dies int, blocks ...int) [][]int {
	var all [][]int
	for _, block := range blocks {
		all = append(all, slices.Repeat([]int{block}, dies))
	}
	return all
}

func run(count int) []int {
	var l []int
	for k := range count {
		l = append(l, k)
	}
	return l
}

// wholeDie are all blocks of one.
func wholeDie(g api.Geometry, die int) [][2]int {
	var l [][2]int
	for block := range g.Blocks {
		l = append(l, [2]int{die, block})
	}
	return l
}

func everyBlock(g api.Geometry) [][2]int {
	var l [][2]int
	for die := range g.Dies {
		l = append(l, wholeDie(g, die)...)
	}
	return l
}

// someBad are lists of bad blocks: the document's edges, and any.
func someBad(g api.Geometry) [][][2]int {
	d, b := g.Dies-1, g.Blocks-1
	all := [][][2]int{nil, {}, {{0, 0}}, {{0, b}}, {{d, 0}}, {{d, b}}, {{2, 3}, {2, 3}}, {{3, b}, {3, 0}, {3, 4}}, {{-1, 0}, {0, -1}, {d + 1, 0}, {0, b + 1}}, wholeDie(g, 0), wholeDie(g, d), everyBlock(g)}
	dice := &dice{uint64(100*g.Dies + g.Blocks)}
	for _, count := range []int{1, 2, 5, 10, 20, 40} {
		for range 10 {
			all = append(all, dice.places(g, count))
		}
	}
	return all
}
