package rowio_test

import (
	"maps"
	"testing"

	"ramekin/api"
)

// once are these dies' blocks, from the first one on, each erased once.
func once(blocks []int, dies int) map[[2]int]int {
	m := map[[2]int]int{}
	for die := range dies {
		m[[2]int{die, blocks[die]}] = 1
	}
	return m
}

// without are the pages but those of these dies' blocks, from the first one on.
func (h held) without(blocks []int, dies int) held {
	left := maps.Clone(h)
	for place := range h {
		if die := place[0]; die < dies && place[1] == blocks[die] {
			delete(left, place)
		}
	}
	return left
}

func TestP1201Erase(t *testing.T) {
	for _, g := range three {
		for rows := range g.Pages + 1 {
			blocks, others := stairs(g, 0), stairs(g, 2)
			n, _, h := written(t, g, blocks, rows)
			l := (&dice{20}).row(g.Dies)
			wantWrite(t, n, others, 0, l, api.OK, g.Dies, 0)
			h.write(others, 0, l, g.Dies)
			wantErase(t, n, blocks, api.OK, g.Dies, 0)
			wantErases(t, n, once(blocks, g.Dies))
			wantHeld(t, n, h.without(blocks, g.Dies))
			for die, block := range blocks {
				wantNext(t, n, die, block, 0)
				wantNext(t, n, die, others[die], 1)
			}
		}
	}
}

func TestP1201EraseNewFlash(t *testing.T) {
	for _, g := range three {
		n := flash(t, g)
		wantErase(t, n, stairs(g, 1), api.OK, g.Dies, 0)
		wantErases(t, n, once(stairs(g, 1), g.Dies))
		wantHeld(t, n, nil)
	}
}

// wantEraseEndsAt is of an Erase that ends by a refusal at one die: those ahead of it are done, those behind it are not.
func wantEraseEndsAt(t *testing.T, g api.Geometry, blocks []int, die int, bad ...[2]int) {
	t.Helper()
	n, h := flash(t, g, bad...), held{}
	d := &dice{21}
	for i, block := range blocks {
		b := d.bytes(60)
		if n.Program(i, block, 0, b) == api.OK {
			h[[3]int{i, block, 0}] = b
		}
	}
	wantErase(t, n, blocks, api.ErrArg, die, 1)
	wantErases(t, n, once(blocks, die))
	wantHeld(t, n, h.without(blocks, die))
	for i := range die {
		wantNext(t, n, i, blocks[i], 0)
	}
	for i := die + 1; i < g.Dies; i++ {
		if sound(n, i, blocks[i]) {
			wantNext(t, n, i, blocks[i], 1)
		}
	}
}

func TestP1201EraseOfBlocksThatAreNone(t *testing.T) {
	for _, g := range three {
		for die := range g.Dies {
			for _, block := range noBlocks(g) {
				wantEraseEndsAt(t, g, inPlaceOf(stairs(g, 3), die, block), die)
			}
		}
	}
}

func TestP1201EraseOfBadBlocks(t *testing.T) {
	for _, g := range three {
		blocks := stairs(g, 4)
		for die := range g.Dies {
			wantEraseEndsAt(t, g, blocks, die, [2]int{die, blocks[die]})
			n := flash(t, g, [2]int{(die + 1) % g.Dies, blocks[die]})
			wantErase(t, n, blocks, api.OK, g.Dies, 0)
		}
	}
}

// P6: the first die that refuses ends it.
func TestP1201EraseSeveralErrors(t *testing.T) {
	blocks := stairs(most, 0)
	wantEraseEndsAt(t, most, inPlaceOf(inPlaceOf(blocks, 5, -1), 7, 12), 3, [2]int{3, blocks[3]}, [2]int{6, blocks[6]})
	wantEraseEndsAt(t, most, inPlaceOf(blocks, 0, 12), 0, [2]int{3, blocks[3]})
}

// P1202: rows are erased and written again, and those of other blocks stay.
func TestP1202RowsErasedAndWrittenAgain(t *testing.T) {
	for _, g := range three {
		d := &dice{22}
		blocks, others := stairs(g, 0), stairs(g, 1)
		n, kept, _ := written(t, g, others, g.Pages)
		for round := range 5 {
			for at := range g.Pages - round%3 {
				l := d.row(g.Dies)
				wantWrite(t, n, blocks, at, l, api.OK, g.Dies, 0)
				wantRead(t, n, blocks, at, goods(l))
			}
			wantWrite(t, n, blocks, 0, d.row(g.Dies), api.ErrArg, 0, 1)
			wantErase(t, n, blocks, api.OK, g.Dies, 0)
			for at := range g.Pages {
				wantRead(t, n, blocks, at, make([]api.Page, g.Dies))
				wantRead(t, n, others, at, goods(kept[at]))
			}
			for die, block := range blocks {
				if n.Erases(die, block) != round+1 || n.Erases(die, others[die]) != 0 {
					t.Fatalf("die %d: erased %d times and %d times", die, n.Erases(die, block), n.Erases(die, others[die]))
				}
			}
		}
	}
}
