package rowio_test

import (
	"bytes"
	"slices"
	"testing"

	"ramekin/api"
	"ramekin/nand"
	"ramekin/rowio"
)

// scribble fills bytes, their spare room too.
func scribble(b []byte) {
	b = b[:cap(b)]
	for i := range b {
		b[i] ^= 0x5A
	}
}

// roomyBlocks is l with spare room behind it, and the whole of it.
func roomyBlocks(l []int) (front, whole []int) {
	whole = append(slices.Clone(l), 1, 1, 1, 1, 1, 1, 1, 1, 1, 1, 1, 1)
	return whole[:len(l)], whole
}

// roomyPayloads is l with spare room behind it and behind each payload; all that memory.
func roomyPayloads(l [][]byte) (front, whole, memory [][]byte) {
	for _, b := range l {
		m := append(bytes.Clone(b), bytes.Repeat([]byte{0xEE}, 60)...)
		memory = append(memory, m)
		whole = append(whole, m[:len(b)])
	}
	whole = append(whole, slices.Repeat([][]byte{{1, 2, 3}}, 12)...)
	return whole[:len(l)], whole, memory
}

func copied(l [][]byte) [][]byte {
	var all [][]byte
	for _, b := range l {
		all = append(all, bytes.Clone(b))
	}
	return all
}

func sameLists(a, b [][]byte) bool { return slices.EqualFunc(a, b, bytes.Equal) }

// handed is what a Write is given, and the Program within which the power goes, if it does.
type handed struct {
	blocks []int
	l      [][]byte
	stop   int
}

// someHanded are rows that are written, refused, or torn.
func someHanded(g api.Geometry) map[string]handed {
	d := &dice{50}
	l := d.row(g.Dies)
	short := slices.Clone(l)
	short[3] = l[3][:47]
	return map[string]handed{
		"done": {stairs(g, 0), l, 0}, "torn": {stairs(g, 0), l, 3}, "a short payload": {stairs(g, 0), short, 0}, "no block": {inPlaceOf(stairs(g, 0), 2, 99), l, 0},
		"fewer blocks": {stairs(g, 0)[1:], l[1:], 0}, "more blocks": {append(stairs(g, 0), 0), d.row(g.Dies + 1), 0}, "fewer payloads": {stairs(g, 0), l[1:], 0}, "none": {nil, nil, 0},
	}
}

func TestP2WhatWasHandedInStays(t *testing.T) {
	for _, g := range three {
		for name, c := range someHanded(g) {
			n := flash(t, g)
			blocks, wholeBlocks := roomyBlocks(c.blocks)
			l, whole, memory := roomyPayloads(c.l)
			wasBlocks, wasWhole, wasMemory := slices.Clone(wholeBlocks), slices.Clone(whole), copied(memory)
			n.Stop(c.stop, []byte{0x3C})
			rowio.Write(n, blocks, 0, l)
			n.Power()
			pages, _ := rowio.Read(n, blocks, 0)
			for _, p := range pages {
				scribble(p.B)
			}
			n.Stop(c.stop, []byte{0x3C})
			rowio.Erase(n, blocks)
			if !slices.Equal(wholeBlocks, wasBlocks) || !sameLists(memory, wasMemory) || !sameLists(whole, wasWhole) {
				t.Fatalf("%s: what was handed in changed", name)
			}
			for i := range whole {
				if len(whole[i]) > 0 && &whole[i][0] != &wasWhole[i][0] {
					t.Fatalf("%s: payload %d is other memory", name, i)
				}
			}
		}
	}
}

// What becomes of the lists behind a call does not count any more.
func TestP2WhatWasHandedInIsNotKept(t *testing.T) {
	for _, g := range three {
		n, h := flash(t, g), held{}
		blocks := stairs(g, 0)
		want := (&dice{51}).row(g.Dies)
		front, wholeBlocks := roomyBlocks(blocks)
		l, whole, memory := roomyPayloads(want)
		wantErrno(t, "Write", rowio.Write(n, front, 0, l), api.OK)
		clear(wholeBlocks)
		clear(whole)
		for _, b := range memory {
			scribble(b)
		}
		h.write(blocks, 0, want, g.Dies)
		wantHeld(t, n, h)
		wantRead(t, n, blocks, 0, goods(want))
		front, wholeBlocks = roomyBlocks(blocks)
		got, _ := rowio.Read(n, front, 0)
		clear(wholeBlocks)
		if !samePages(got, goods(want)) {
			t.Fatal("Read's answer hangs on what was handed in")
		}
	}
}

// What stands behind a list is not of it.
func TestP2SpareRoomIsNotRead(t *testing.T) {
	whole, l := append(stairs(least, 0), 99, 99), (&dice{52}).row(8)
	l[6], l[7] = nil, nil
	n := flash(t, least)
	wantWrite(t, n, whole[:6], 0, l[:6], api.OK, 6, 0)
	wantRead(t, n, whole[:6], 0, goods(l[:6]))
	wantWrite(t, n, whole[:5], 1, l[:5], api.ErrArg, 0, 0)
	wantWrite(t, n, whole[:6], 1, l[:5], api.ErrArg, 0, 0)
	wantErase(t, n, whole[:6], api.OK, 6, 0)
}

// Each page is filled up in turn, its spare room too: the others stay, what is on flash, and another answer.
func TestP2ReadAnswersAreNewMemory(t *testing.T) {
	for _, g := range three {
		d := &dice{54}
		blocks := stairs(g, 0)
		for _, l := range [][][]byte{d.row(g.Dies), slices.Repeat(d.row(1), g.Dies), slices.Repeat([][]byte{make([]byte, 48)}, g.Dies)} {
			n, h := flash(t, g), held{}
			wantWrite(t, n, blocks, 0, l, api.OK, g.Dies, 0)
			h.write(blocks, 0, l, g.Dies)
			wantAnswersApart(t, n, blocks, goods(l))
			n.Noise(1, blocks[1], 0, []int{33, 300})
			n.Noise(2, blocks[2], 0, []int{33, 34, 35, 36})
			wantAnswersApart(t, n, blocks, with(goods(l), 2, badPage))
			n.Noise(1, blocks[1], 0, nil)
			n.Noise(2, blocks[2], 0, nil)
			wantHeld(t, n, h)
		}
	}
}

func wantAnswersApart(t *testing.T, n *nand.Nand, blocks []int, want []api.Page) {
	t.Helper()
	one, _ := rowio.Read(n, blocks, 0)
	two, _ := rowio.Read(n, blocks, 0)
	for i := range one {
		scribble(one[i].B)
		for j := range one {
			if j != i && !bytes.Equal(one[j].B, want[j].B) {
				t.Fatalf("pages %d and %d share memory", i, j)
			}
		}
		scribble(one[i].B)
	}
	for i := range one {
		scribble(one[i].B)
	}
	clear(one[:cap(one)])
	if !samePages(two, want) {
		t.Fatal("two answers share memory")
	}
	wantRead(t, n, blocks, 0, want)
}

// What was read may be written again, and then spoilt.
func TestP2WhatWasReadIsWrittenAgain(t *testing.T) {
	blocks := stairs(odd, 0)
	n, rows, h := written(t, odd, blocks, 1)
	pages, _ := rowio.Read(n, blocks, 0)
	var l [][]byte
	for _, p := range pages {
		l = append(l, p.B)
	}
	wantWrite(t, n, blocks, 1, l, api.OK, 7, 0)
	for _, b := range l {
		scribble(b)
	}
	h.write(blocks, 1, rows[0], 7)
	wantHeld(t, n, h)
	wantRead(t, n, blocks, 1, goods(rows[0]))
}

// P3: the same calls in the same order, on two flashes side by side, answer the same; and neither touches the other.
func TestP3P7TheSameCallsSideBySide(t *testing.T) {
	for _, g := range three {
		d := &dice{53}
		one, two := flash(t, g), flash(t, g)
		blocks, l := stairs(g, 0), d.row(g.Dies)
		wantWrite(t, one, blocks, 0, l, api.OK, g.Dies, 0)
		wantCounts(t, two, 0, 0)
		wantRead(t, two, blocks, 0, make([]api.Page, g.Dies))
		wantWrite(t, two, blocks, 0, l, api.OK, g.Dies, 0)
		wantErase(t, two, blocks, api.OK, g.Dies, 0)
		for range 3 {
			wantRead(t, one, blocks, 0, goods(l))
			wantRead(t, two, blocks, 0, make([]api.Page, g.Dies))
			wantNoRead(t, one, blocks, g.Pages, api.ErrArg, 0, 1)
			wantWrite(t, one, blocks, 0, l, api.ErrArg, 0, 1)
		}
		two.Stop(1, nil)
		wantWrite(t, two, blocks, 0, l, api.ErrDead, 1, 0)
		wantRead(t, one, blocks, 0, goods(l))
		wantErases(t, one, nil)
	}
}
