package nand_test

import (
	"bytes"
	"math"
	"testing"

	"ramekin/api"
	"ramekin/nand"
)

func wantNoFlash(t *testing.T, g api.Geometry, bad ...[2]int) {
	t.Helper()
	if n, e := nand.New(g, bad); e != api.ErrArg || n != nil {
		t.Errorf("New(%v, %v): %v, want ErrArg alone", g, bad, e)
	}
}

func TestP701EachNumberOfAGeometry(t *testing.T) {
	for dies := 6; dies <= 8; dies++ {
		for blocks := 8; blocks <= 12; blocks++ {
			for pages := 4; pages <= 8; pages++ {
				g := api.Geometry{Dies: dies, Blocks: blocks, Pages: pages}
				if got := flash(t, g).Geometry(); got != g {
					t.Errorf("Geometry: %v, want %v", got, g)
				}
			}
		}
	}
	far := []int{0, -1, -6, -8, 1 << 32, 1<<32 + 8, math.MaxInt64, math.MinInt64}
	for _, right := range []api.Geometry{least, most} {
		for _, dies := range append([]int{5, 9, 12}, far...) {
			wantNoFlash(t, api.Geometry{Dies: dies, Blocks: right.Blocks, Pages: right.Pages})
		}
		for _, blocks := range append([]int{7, 13, 6}, far...) {
			wantNoFlash(t, api.Geometry{Dies: right.Dies, Blocks: blocks, Pages: right.Pages})
		}
		for _, pages := range append([]int{3, 9, 12}, far...) {
			wantNoFlash(t, api.Geometry{Dies: right.Dies, Blocks: right.Blocks, Pages: pages})
		}
	}
	wantNoFlash(t, api.Geometry{})
	wantNoFlash(t, api.Geometry{Dies: 5, Blocks: 7, Pages: 3}, [2]int{0, 0})
}

func TestP701BadBlocks(t *testing.T) {
	for _, g := range []api.Geometry{least, most} {
		d, b := g.Dies-1, g.Blocks-1
		for _, bad := range [][][2]int{nil, {}, {{0, 0}}, {{d, b}}, {{0, b}}, {{d, 0}}, {{2, 3}, {2, 3}}, {{2, 3}, {1, 1}, {2, 3}, {d, b}}} {
			n, e := nand.New(g, bad)
			wantErrno(t, "New", e, api.OK)
			stands := map[[2]int]int{}
			for _, place := range bad {
				stands[place]++
			}
			for die := -2; die <= g.Dies+1; die++ {
				for block := -2; block <= g.Blocks+1; block++ {
					if got := n.IsBad(die, block); got != (stands[[2]int{die, block}] > 0) {
						t.Errorf("of %v: IsBad(%d, %d): %v", bad, die, block, got)
					}
				}
			}
		}
		for _, none := range [][2]int{{-1, 0}, {0, -1}, {d + 1, 0}, {0, b + 1}, {-1, -1}, {d + 1, b + 1}, {math.MinInt64, 0}, {0, math.MaxInt64}, {1 << 32, 0}} {
			wantNoFlash(t, g, none)
			wantNoFlash(t, g, [2]int{1, 1}, none)
			wantNoFlash(t, g, none, [2]int{1, 1})
			wantNoFlash(t, g, none, none)
		}
	}
	// All of them may be bad.
	var all [][2]int
	for die := range 6 {
		for block := range 8 {
			all = append(all, [2]int{die, block})
		}
	}
	n := flash(t, least, all...)
	for _, place := range all {
		wantNoRead(t, n, place[0], place[1], 0, api.ErrArg)
	}
}

func TestP701NewFlashIsBlank(t *testing.T) {
	for _, g := range []api.Geometry{least, most} {
		n := flash(t, g)
		wantCounts(t, n, 0, 0)
		if n.Dead() {
			t.Error("no power")
		}
		for die := range g.Dies {
			for block := range g.Blocks {
				if n.Erases(die, block) != 0 || n.IsBad(die, block) {
					t.Errorf("block %d of die %d is not new", block, die)
				}
				for page := range g.Pages {
					wantPage(t, n, die, block, page, blank())
				}
			}
		}
	}
}

// nones are places just below nought and just behind the last, and far away.
func nones(g api.Geometry) [][3]int {
	var all [][3]int
	for axis, count := range []int{g.Dies, g.Blocks, g.Pages} {
		for _, number := range []int{-1, count, -count, math.MinInt64, math.MaxInt64, 1 << 32, -1 << 32} {
			for _, place := range [][3]int{{0, 0, 0}, {g.Dies - 1, g.Blocks - 1, g.Pages - 1}} {
				place[axis] = number
				all = append(all, place)
			}
		}
	}
	return append(all, [3]int{-1, -1, -1}, [3]int{g.Dies, g.Blocks, g.Pages})
}

func isBlock(g api.Geometry, place [3]int) bool {
	return place[0] >= 0 && place[0] < g.Dies && place[1] >= 0 && place[1] < g.Blocks
}

func TestP701WhatIsNone(t *testing.T) {
	for _, g := range []api.Geometry{least, most} {
		for _, p := range nones(g) {
			n := flash(t, g)
			wantNoRead(t, n, p[0], p[1], p[2], api.ErrArg)
			wantErrno(t, "Program", n.Program(p[0], p[1], p[2], filled(1)), api.ErrArg)
			wantCounts(t, n, 0, 2)
			if isBlock(g, p) {
				continue
			}
			wantErrno(t, "Erase", n.Erase(p[0], p[1]), api.ErrArg)
			wantCounts(t, n, 0, 3)
			if n.IsBad(p[0], p[1]) || n.Erases(p[0], p[1]) != 0 {
				t.Errorf("%v: IsBad, or Erases of none", p)
			}
			wantNothingProgrammed(t, n)
		}
	}
}

func wantNothingProgrammed(t *testing.T, n *nand.Nand) {
	t.Helper()
	g := n.Geometry()
	for die := range g.Dies {
		for block := range g.Blocks {
			for page := range g.Pages {
				wantPage(t, n, die, block, page, blank())
			}
		}
	}
}

func TestP701BlocksThatAreBad(t *testing.T) {
	n := flash(t, least, [2]int{2, 3}, [2]int{5, 7}, [2]int{2, 3})
	wrong := 0
	for _, place := range [][2]int{{2, 3}, {5, 7}} {
		for page := -1; page <= 4; page++ {
			wantNoRead(t, n, place[0], place[1], page, api.ErrArg)
			wantErrno(t, "Program", n.Program(place[0], place[1], page, filled(1)), api.ErrArg)
			wrong += 2
		}
		wantErrno(t, "Erase", n.Erase(place[0], place[1]), api.ErrArg)
		wrong++
		if n.Erases(place[0], place[1]) != 0 {
			t.Error("a bad block was erased")
		}
	}
	wantCounts(t, n, 0, wrong)
	// Those beside it, and the one of its numbers turned round, are not.
	for _, place := range [][2]int{{2, 2}, {2, 4}, {1, 3}, {3, 3}, {3, 2}, {5, 6}, {4, 7}} {
		program(t, n, place[0], place[1], 0, filled(9))
		wantPage(t, n, place[0], place[1], 0, filled(9))
		erase(t, n, place[0], place[1])
	}
}

func TestP701DeadAheadOfArg(t *testing.T) {
	for _, g := range []api.Geometry{least, most} {
		n := flash(t, g, [2]int{1, 1})
		n.Stop(1, nil)
		wantErrno(t, "Erase", n.Erase(0, 0), api.ErrDead)
		wantNoCount(t, n, func() {
			for _, p := range append(nones(g), [3]int{1, 1, 0}, [3]int{0, 0, 0}, [3]int{0, 0, 1}) {
				wantNoRead(t, n, p[0], p[1], p[2], api.ErrDead)
				for _, b := range [][]byte{nil, filled(1), filled(1)[1:], make([]byte, 61)} {
					wantErrno(t, "Program", n.Program(p[0], p[1], p[2], b), api.ErrDead)
				}
				wantErrno(t, "Erase", n.Erase(p[0], p[1]), api.ErrDead)
			}
		})
		// What does not need power is told all the same.
		if !n.IsBad(1, 1) || n.IsBad(0, 0) || n.Erases(0, 0) != 1 || n.Geometry() != g || !n.Dead() {
			t.Error("without power other things are told")
		}
		n.Power()
		wantCounts(t, n, 1, 0)
		wantNoRead(t, n, -1, 0, 0, api.ErrArg)
		wantCounts(t, n, 1, 1)
	}
}

func TestP702Example1(t *testing.T) {
	n := flash(t, least)
	wantErrno(t, "Program of page 1 of a new block", n.Program(0, 0, 1, filled(7)), api.ErrArg)
	wantPages(t, n, 0, 0, blank(), blank(), blank(), blank())
}

func TestP702PagesInOrder(t *testing.T) {
	d := &dice{1}
	for _, g := range []api.Geometry{least, most} {
		n := flash(t, g)
		for _, place := range [][2]int{{0, 0}, {g.Dies - 1, g.Blocks - 1}, {2, 5}, {5, 2}} {
			die, block := place[0], place[1]
			var held [][]byte
			for next := 0; next <= g.Pages; next++ {
				for page := -1; page <= g.Pages+1; page++ {
					if page != next || page == g.Pages {
						wrong, ops := n.Wrong(), n.Ops()
						wantErrno(t, "Program out of its order", n.Program(die, block, page, d.bytes(60)), api.ErrArg)
						wantCounts(t, n, ops, wrong+1)
					}
				}
				wantPages(t, n, die, block, held...)
				if next == g.Pages {
					continue
				}
				wantPage(t, n, die, block, next, blank())
				held = append(held, d.bytes(60))
				wrong, ops := n.Wrong(), n.Ops()
				program(t, n, die, block, next, held[next])
				wantCounts(t, n, ops+1, wrong)
			}
		}
	}
}

// Each block has a next page of its own.
func TestP702BlocksDoNotTouchOneAnother(t *testing.T) {
	n := flash(t, least)
	sign := func(die, block, page int) []byte { return filled(byte(die*32 + block*4 + page)) }
	for page := range 4 {
		for die := range 6 {
			for block := range 8 {
				program(t, n, die, block, page, sign(die, block, page))
			}
		}
	}
	erase(t, n, 3, 4)
	for die := range 6 {
		for block := range 8 {
			for page := range 4 {
				want := sign(die, block, page)
				if die == 3 && block == 4 {
					want = blank()
				}
				wantPage(t, n, die, block, page, want)
			}
			if erases := n.Erases(die, block); (erases == 1) != (die == 3 && block == 4) || erases > 1 {
				t.Errorf("Erases(%d, %d): %d", die, block, erases)
			}
		}
	}
	wantNext(t, n, 3, 4, 0)
	wantNext(t, n, 3, 3, 4)
	wantNext(t, n, 4, 3, 4)
}

func TestP702ProgramOfBytesThatAreNo60(t *testing.T) {
	n := flash(t, least)
	wrong := 0
	for _, count := range []int{0, 1, 28, 48, 59, 61, 120, 1000} {
		wantErrno(t, "Program", n.Program(1, 2, 0, make([]byte, count)), api.ErrArg)
		// Spare room does not make up for bytes that lack.
		wantErrno(t, "Program", n.Program(1, 2, 0, make([]byte, count, count+60)), api.ErrArg)
		wrong += 2
	}
	wantErrno(t, "Program", n.Program(1, 2, 0, nil), api.ErrArg)
	wantErrno(t, "Program", n.Program(1, 2, 0, make([]byte, 0, 60)), api.ErrArg)
	wantCounts(t, n, 0, wrong+2)
	wantPage(t, n, 1, 2, 0, blank())
	program(t, n, 1, 2, 0, make([]byte, 60, 200))
	wantPage(t, n, 1, 2, 0, make([]byte, 60))
}

// Bytes of 255 are programmed as well: the page is used up.
func TestP702ProgramOfWhatLooksBlank(t *testing.T) {
	n := flash(t, least)
	program(t, n, 0, 0, 0, blank())
	wantErrno(t, "Program", n.Program(0, 0, 0, filled(1)), api.ErrArg)
	program(t, n, 0, 0, 1, filled(1))
	wantPages(t, n, 0, 0, blank(), filled(1), blank(), blank())
}

func TestP702EraseOfNoneSomeAndAllPages(t *testing.T) {
	for _, g := range []api.Geometry{least, most} {
		n := flash(t, g)
		for round := range 3 {
			for count := 0; count <= g.Pages; count++ {
				block := count % g.Blocks
				before := n.Erases(2, block)
				for page := range count {
					program(t, n, 2, block, page, filled(byte(16*round+page)))
				}
				ops, wrong := n.Ops(), n.Wrong()
				erase(t, n, 2, block)
				wantCounts(t, n, ops+1, wrong)
				if n.Erases(2, block) != before+1 {
					t.Fatalf("Erases: %d, want %d", n.Erases(2, block), before+1)
				}
				for page := range g.Pages {
					wantPage(t, n, 2, block, page, blank())
				}
				wantErrno(t, "Program behind an Erase", n.Program(2, block, 1, filled(1)), api.ErrArg)
				wantErrno(t, "Program behind an Erase", n.Program(2, block, g.Pages, filled(1)), api.ErrArg)
			}
		}
	}
}

func TestP702PagesBehindAnErase(t *testing.T) {
	n := flash(t, least)
	for round := range 5 {
		for page := range 4 {
			program(t, n, 5, 7, page, filled(byte(10*round+page)))
		}
		wantErrno(t, "Program of a full block", n.Program(5, 7, 0, filled(1)), api.ErrArg)
		wantPages(t, n, 5, 7, filled(byte(10*round)), filled(byte(10*round+1)), filled(byte(10*round+2)), filled(byte(10*round+3)))
		erase(t, n, 5, 7)
		if n.Erases(5, 7) != round+1 {
			t.Errorf("Erases: %d, want %d", n.Erases(5, 7), round+1)
		}
	}
}

func TestP702ErasesOfNone(t *testing.T) {
	n := flash(t, least, [2]int{0, 0})
	for block := 1; block < 8; block++ {
		erase(t, n, 0, block)
		erase(t, n, 5, block)
	}
	for _, place := range [][2]int{{-1, 1}, {6, 1}, {0, -1}, {0, 8}, {1, -1}, {5, 8}, {0, 0}, {math.MinInt64, 1}, {5, math.MaxInt64}, {1, 1}} {
		if k := n.Erases(place[0], place[1]); k != 0 {
			t.Errorf("Erases of %v: %d", place, k)
		}
	}
}

func TestP702WhatIsCounted(t *testing.T) {
	n := flash(t, least, [2]int{1, 1})
	wantCounts(t, n, 0, 0)
	n.Read(0, 0, 0)
	n.Read(0, 0, 0)
	wantCounts(t, n, 2, 0)
	n.Program(0, 0, 0, filled(1))
	wantCounts(t, n, 3, 0)
	n.Erase(0, 0)
	wantCounts(t, n, 4, 0)
	n.Read(0, 0, 4)
	wantCounts(t, n, 4, 1)
	n.Program(0, 0, 1, filled(1))
	wantCounts(t, n, 4, 2)
	n.Erase(1, 1)
	wantCounts(t, n, 4, 3)
	wantNoCount(t, n, func() {
		n.Noise(0, 0, 0, []int{1})
		n.Noise(0, 0, 4, []int{1})
		n.Noise(-1, 0, 0, nil)
		n.Noise(1, 1, 0, nil)
		n.IsBad(0, 9)
		n.Erases(9, 9)
		n.Geometry()
		n.Dead()
		n.Power()
		n.Stop(0, nil)
		n.Stop(1, nil)
		nand.New(least, [][2]int{{9, 9}})
	})
	n.Program(0, 0, 0, filled(2))
	wantCounts(t, n, 5, 3)
	wantNoCount(t, n, func() {
		n.Read(0, 0, 0)
		n.Read(0, 0, 9)
		n.Program(0, 0, 1, filled(1))
		n.Program(0, 0, 1, nil)
		n.Erase(0, 0)
		n.Erase(1, 1)
		n.Power()
	})
	n.Stop(1, nil)
	n.Erase(0, 0)
	wantCounts(t, n, 6, 3)
}

// What was programmed stays: whatever is refused, read, stopped, or done to other blocks.
func TestP704WhatWasProgrammedStays(t *testing.T) {
	d := &dice{3}
	n := flash(t, least)
	held := [][]byte{d.bytes(60), d.bytes(60), d.bytes(60)}
	for page, b := range held {
		program(t, n, 2, 2, page, b)
	}
	stays := append(held, blank())
	for page := -1; page <= 4; page++ {
		if page != 3 {
			n.Program(2, 2, page, d.bytes(60))
		}
		n.Program(2, 2, page, d.bytes(59))
		n.Program(2, 2, page, nil)
		wantPages(t, n, 2, 2, stays...)
	}
	for _, place := range [][2]int{{2, 1}, {2, 3}, {1, 2}, {3, 2}} {
		for page := range 4 {
			program(t, n, place[0], place[1], page, d.bytes(60))
		}
		erase(t, n, place[0], place[1])
		n.Stop(2, filled(0x5A))
		program(t, n, place[0], place[1], 0, d.bytes(60))
		n.Erase(place[0], place[1])
		n.Erase(2, 2)
		n.Program(2, 2, 3, d.bytes(60))
		n.Power()
		wantPages(t, n, 2, 2, stays...)
	}
	n.Noise(2, 2, 1, []int{5})
	n.Read(2, 2, 1)
	n.Noise(2, 2, 1, nil)
	wantPages(t, n, 2, 2, stays...)
	if n.Erases(2, 2) != 0 {
		t.Error("it was erased")
	}
	program(t, n, 2, 2, 3, filled(3))
	wantPages(t, n, 2, 2, held[0], held[1], held[2], filled(3))
}

// An object that New did not make has no flash at all.
func TestP1FlashThatIsNone(t *testing.T) {
	n := new(nand.Nand)
	n.Stop(1, []byte{1})
	wantNoRead(t, n, 0, 0, 0, api.ErrArg)
	wantErrno(t, "Program", n.Program(0, 0, 0, filled(1)), api.ErrArg)
	wantErrno(t, "Erase", n.Erase(0, 0), api.ErrArg)
	wantErrno(t, "Noise", n.Noise(0, 0, 0, []int{1}), api.ErrArg)
	n.Power()
	if n.Dead() || n.IsBad(0, 0) || n.Erases(0, 0) != 0 || n.Geometry() != (api.Geometry{}) || n.Ops() != 0 || n.Wrong() != 3 {
		t.Error("it has flash")
	}
}

func TestP3TheSameCallsAnswerTheSame(t *testing.T) {
	one, two := flash(t, least), flash(t, least)
	for _, n := range []*nand.Nand{one, two} {
		d := &dice{4}
		for page := range 3 {
			program(t, n, 1, 1, page, d.bytes(60))
		}
		n.Noise(1, 1, 1, []int{7, 470})
		n.Stop(1, d.bytes(7))
		wantErrno(t, "Erase", n.Erase(1, 1), api.ErrDead)
		n.Power()
	}
	for page := range 4 {
		a, _ := one.Read(1, 1, page)
		for range 2 {
			if b, _ := two.Read(1, 1, page); !bytes.Equal(a, b) {
				t.Errorf("page %d: %v, %v", page, a, b)
			}
		}
	}
}
