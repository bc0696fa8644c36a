package rowio_test

import (
	"bytes"
	"slices"
	"testing"

	"ramekin/api"
	"ramekin/nand"
	"ramekin/page"
	"ramekin/rowio"
)

// The word of a single bit, bit 0 of its data, is the generator itself: its bits are written out.
func TestP1201WriteByHand(t *testing.T) {
	single := append([]byte{0xFD, 0x42, 0x5B, 0xEE, 1}, make([]byte, 23)...)
	noughts := make([]byte, 28)
	first, second := make([]byte, 48), make([]byte, 48)
	first[0], second[24] = 1, 1
	n := flash(t, least)
	blocks := []int{7, 0, 3, 3, 1, 6}
	l := [][]byte{first, second, make([]byte, 48), second, make([]byte, 48), first}
	wantWrite(t, n, blocks, 0, l, api.OK, 6, 0)
	one, two := slices.Concat(make([]byte, 4), single, noughts), slices.Concat(make([]byte, 4), noughts, single)
	wantHeld(t, n, held{{0, 7, 0}: one, {1, 0, 0}: two, {2, 3, 0}: make([]byte, 60), {3, 3, 0}: two, {4, 1, 0}: make([]byte, 60), {5, 6, 0}: one})
}

// All rows of all superblocks of each geometry: what was written stays, and is read as it was.
func TestP1201P1202WriteAndRead(t *testing.T) {
	for dies := 6; dies <= 8; dies++ {
		for pages := 4; pages <= 8; pages++ {
			g := api.Geometry{Dies: dies, Blocks: 8 + (dies+pages)%5, Pages: pages}
			n, h, d := flash(t, g), held{}, &dice{uint64(10*dies + pages)}
			rows := map[[2]int][][]byte{}
			for at := range pages {
				for shift := range g.Blocks {
					l := d.row(dies)
					wantWrite(t, n, stairs(g, shift), at, l, api.OK, dies, 0)
					wantRead(t, n, stairs(g, shift), at, goods(l))
					h.write(stairs(g, shift), at, l, dies)
					rows[[2]int{shift, at}] = l
				}
			}
			wantHeld(t, n, h)
			for where, l := range rows {
				wantRead(t, n, stairs(g, where[0]), where[1], goods(l))
			}
			wantErases(t, n, nil)
		}
	}
}

// notDies are lengths of lists that are not one of each die.
func notDies(dies int) []int {
	all := []int{dies - 1, dies + 1, 0, 1, 256 + dies, 1 << 16}
	for count := range 20 {
		if count != dies {
			all = append(all, count)
		}
	}
	return all
}

// counted are blocks of which there are so many.
func counted(g api.Geometry, count int) []int {
	blocks := make([]int, count)
	for i := range blocks {
		blocks[i] = (i + 1) % g.Blocks
	}
	return blocks
}

// wantUntouched is of flash that is as written left it, with a Stop at the second Program from there on.
func wantUntouched(t *testing.T, n *nand.Nand, blocks []int, rows int, h held) {
	t.Helper()
	if n.Dead() {
		t.Fatal("the power is gone")
	}
	wantErases(t, n, nil)
	wantHeld(t, n, h)
	// A Stop came no nearer.
	wantErrno(t, "Program", n.Program(0, blocks[0], rows, blank()), api.OK)
	wantErrno(t, "Program", n.Program(1, blocks[1], rows, blank()), api.ErrDead)
	n.Power()
	wantNext(t, n, 2, blocks[2], rows)
	wantNext(t, n, n.Geometry().Dies-1, blocks[n.Geometry().Dies-1], rows)
}

func TestP1201NotOneBlockOfEachDie(t *testing.T) {
	for _, g := range three {
		d := &dice{7}
		blocks := stairs(g, 1)
		n, _, h := written(t, g, blocks, 2)
		n.Stop(2, nil)
		for _, count := range notDies(g.Dies) {
			for _, l := range [][][]byte{d.row(count % 500), d.row(g.Dies), nil} {
				for _, at := range []int{-1, 0, 1, 2, g.Pages} {
					wantWrite(t, n, counted(g, count), at, l, api.ErrArg, 0, 0)
					wantNoRead(t, n, counted(g, count), at, api.ErrArg, 0, 0)
				}
			}
			wantErase(t, n, counted(g, count), api.ErrArg, 0, 0)
		}
		for _, wrong := range [][]int{nil, {}, blocks[1:], blocks[:g.Dies-1], append(slices.Clone(blocks), 0), append([]int{0}, blocks...), append(slices.Clone(blocks), blocks...)} {
			wantWrite(t, n, wrong, 2, d.row(len(wrong)), api.ErrArg, 0, 0)
			wantWrite(t, n, wrong, 2, d.row(g.Dies), api.ErrArg, 0, 0)
			wantNoRead(t, n, wrong, 0, api.ErrArg, 0, 0)
			wantErase(t, n, wrong, api.ErrArg, 0, 0)
		}
		wantUntouched(t, n, blocks, 2, h)
	}
}

func TestP1201NotAsManyPayloads(t *testing.T) {
	for _, g := range three {
		d := &dice{8}
		blocks := stairs(g, 2)
		n, _, h := written(t, g, blocks, 2)
		n.Stop(2, nil)
		for _, count := range notDies(g.Dies) {
			for _, at := range []int{-1, 0, 1, 2, g.Pages} {
				wantWrite(t, n, blocks, at, make([][]byte, count), api.ErrArg, 0, 0)
			}
			wantWrite(t, n, blocks, 2, d.row(count%500), api.ErrArg, 0, 0)
		}
		whole := d.row(g.Dies + 1)
		for _, l := range [][][]byte{nil, {}, whole, whole[:g.Dies-1], whole[2:], make([][]byte, g.Dies-1), make([][]byte, g.Dies+1)} {
			wantWrite(t, n, blocks, 2, l, api.ErrArg, 0, 0)
		}
		wantUntouched(t, n, blocks, 2, h)
	}
}

// wantEndsAt is of flash on which a Write of row at ended by a refusal at one die: those ahead of it are done, it and those behind it are not.
func wantEndsAt(t *testing.T, n *nand.Nand, blocks []int, at int, l [][]byte, die int, h held) {
	t.Helper()
	wantWrite(t, n, blocks, at, l, api.ErrArg, die, 1)
	h.write(blocks, at, l, die)
	wantHeld(t, n, h)
	wantErases(t, n, nil)
	for ahead := range die {
		wantNext(t, n, ahead, blocks[ahead], at+1)
	}
	for behind := die + 1; behind < len(blocks); behind++ {
		if sound(n, behind, blocks[behind]) {
			wantNext(t, n, behind, blocks[behind], at)
		}
	}
}

func TestP1201PayloadsOfOtherLengths(t *testing.T) {
	for _, g := range three {
		for die := range g.Dies {
			for _, count := range []int{0, 1, 24, 47, 49, 60, 96, 1 << 16} {
				d := &dice{uint64(count)}
				at := count % 3
				blocks := stairs(g, die)
				n, _, h := written(t, g, blocks, at)
				l := d.row(g.Dies)
				l[die] = d.bytes(count)
				wantEndsAt(t, n, blocks, at, l, die, h)
				wantNext(t, n, die, blocks[die], at)
			}
		}
	}
	n := flash(t, least)
	l := (&dice{9}).row(6)
	l[0] = nil
	wantWrite(t, n, stairs(least, 0), 0, l, api.ErrArg, 0, 1)
	wantWrite(t, n, stairs(least, 0), 0, make([][]byte, 6), api.ErrArg, 0, 1)
	wantHeld(t, n, nil)
}

// A page of flash is no payload: it is made into none, even where it is one already.
func TestP1201PagesAreNoPayloads(t *testing.T) {
	n := flash(t, least)
	var l [][]byte
	for _, b := range (&dice{10}).row(6) {
		l = append(l, page.Encode(b))
	}
	wantWrite(t, n, stairs(least, 0), 0, l, api.ErrArg, 0, 1)
	wantHeld(t, n, nil)
}

func TestP1201PagesThatAreNone(t *testing.T) {
	for _, g := range three {
		for rows := range g.Pages + 1 {
			blocks := stairs(g, rows)
			n, _, h := written(t, g, blocks, rows)
			l := (&dice{11}).row(g.Dies)
			for _, at := range append([]int{g.Pages, g.Pages + 1}, far...) {
				wantWrite(t, n, blocks, at, l, api.ErrArg, 0, 1)
				wantNoRead(t, n, blocks, at, api.ErrArg, 0, 1)
			}
			for at := range g.Pages {
				if at != rows {
					wantWrite(t, n, blocks, at, l, api.ErrArg, 0, 1)
				}
			}
			wantHeld(t, n, h)
			wantNext(t, n, 0, blocks[0], rows)
		}
	}
}

// The block of one die is a page further than those of the others, or a page behind them.
func TestP1201NotTheNextPageOfOneDie(t *testing.T) {
	for _, g := range three {
		for die := range g.Dies {
			d := &dice{uint64(die)}
			blocks := stairs(g, 3)
			n, _, h := written(t, g, blocks, 1)
			further := d.bytes(60)
			wantErrno(t, "Program", n.Program(die, blocks[die], 1, further), api.OK)
			h[[3]int{die, blocks[die], 1}] = further
			wantEndsAt(t, n, blocks, 1, d.row(g.Dies), die, h)
			wantNext(t, n, die, blocks[die], 2)

			n, _, h = written(t, g, blocks, 1)
			behind := (blocks[die] + 1) % g.Blocks
			wantEndsAt(t, n, inPlaceOf(blocks, die, behind), 1, d.row(g.Dies), die, h)
			wantNext(t, n, die, behind, 0)
		}
	}
}

// noBlocks are numbers that no block of a die has.
func noBlocks(g api.Geometry) []int { return append([]int{g.Blocks, g.Blocks + 1, -g.Blocks}, far...) }

func TestP1201WriteToBlocksThatAreNone(t *testing.T) {
	for _, g := range three {
		for die := range g.Dies {
			for _, block := range noBlocks(g) {
				blocks := stairs(g, 4)
				n, _, h := written(t, g, blocks, 1)
				wantEndsAt(t, n, inPlaceOf(blocks, die, block), 1, (&dice{12}).row(g.Dies), die, h)
				wantNext(t, n, die, blocks[die], 1)
			}
		}
	}
}

func TestP1201WriteToBadBlocks(t *testing.T) {
	for _, g := range three {
		for die := range g.Dies {
			blocks := stairs(g, 5)
			n := flash(t, g, [2]int{die, blocks[die]})
			wantEndsAt(t, n, blocks, 0, (&dice{13}).row(g.Dies), die, held{})
			// The block of that number is bad on no other die.
			n = flash(t, g, [2]int{(die + 1) % g.Dies, blocks[die]})
			wantWrite(t, n, stairs(g, 5), 0, (&dice{14}).row(g.Dies), api.OK, g.Dies, 0)
		}
	}
}

// P6: at the first die that refuses it ends, whatever else is wrong there, or behind it.
func TestP1201WriteSeveralErrors(t *testing.T) {
	d := &dice{15}
	blocks := stairs(odd, 0)
	l := d.row(7)
	l[2], l[4] = d.bytes(47), nil
	n := flash(t, odd, [2]int{5, blocks[5]})
	wantEndsAt(t, n, inPlaceOf(blocks, 3, 99), 0, l, 2, held{})

	n = flash(t, odd, [2]int{2, blocks[2]}, [2]int{5, blocks[5]})
	wantEndsAt(t, n, inPlaceOf(blocks, 6, -1), 0, l, 2, held{})

	n = flash(t, odd, [2]int{0, blocks[0]})
	wantWrite(t, n, blocks, -1, l, api.ErrArg, 0, 1)
	wantWrite(t, n, blocks, 0, l[:6], api.ErrArg, 0, 0)
	wantWrite(t, n, append(blocks, 0), -1, append(l, nil), api.ErrArg, 0, 0)
	wantHeld(t, n, nil)
}

// A Write that ended by an error is not undone: its row can't be written again, the next one can.
func TestP1201BehindAWriteThatEnded(t *testing.T) {
	d := &dice{16}
	blocks := stairs(least, 0)
	n, h := flash(t, least), held{}
	first, second := d.row(6), d.row(6)
	first[3] = nil
	wantWrite(t, n, blocks, 0, first, api.ErrArg, 3, 1)
	h.write(blocks, 0, first, 3)
	wantWrite(t, n, blocks, 0, second, api.ErrArg, 0, 1)
	wantHeld(t, n, h)
	wantWrite(t, n, blocks, 1, second, api.ErrArg, 3, 1)
	h.write(blocks, 1, second, 3)
	wantHeld(t, n, h)
	wantErase(t, n, blocks, api.OK, 6, 0)
	wantWrite(t, n, blocks, 0, second, api.OK, 6, 0)
	wantRead(t, n, blocks, 0, goods(second))
}

// One payload may be that of several dies, and all of 255s or noughts.
func TestP1201P1202AnyPayloads(t *testing.T) {
	n := flash(t, most)
	blocks := stairs(most, 6)
	same := (&dice{17}).bytes(48)
	for at, b := range [][]byte{same, make([]byte, 48), bytes.Repeat([]byte{255}, 48), same} {
		l := slices.Repeat([][]byte{b}, 8)
		wantErrno(t, "Write", rowio.Write(n, blocks, at, l), api.OK)
		wantRead(t, n, blocks, at, goods(l))
	}
}
