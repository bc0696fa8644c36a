package rowio_test

import (
	"bytes"
	"testing"

	"ramekin/api"
	"ramekin/nand"
	"ramekin/page"
	"ramekin/rowio"
)

// twins are two flashes, of which one is handled by rowio and the other by the document's words, die by die.
type twins struct{ one, other *nand.Nand }

// wantTwins asks both of all that they tell without a change of it.
func wantTwins(t *testing.T, w twins) {
	t.Helper()
	wantCounts(t, w.one, w.other.Ops(), w.other.Wrong())
	if w.one.Dead() != w.other.Dead() {
		t.Fatalf("Dead: %v, want %v", w.one.Dead(), w.other.Dead())
	}
	g := w.one.Geometry()
	for die := range g.Dies {
		for block := range g.Blocks {
			if w.one.Erases(die, block) != w.other.Erases(die, block) {
				t.Fatalf("block %d of die %d: erased %d times, want %d", block, die, w.one.Erases(die, block), w.other.Erases(die, block))
			}
			for page := range g.Pages {
				a, e := w.one.Read(die, block, page)
				b, f := w.other.Read(die, block, page)
				if e != f || !bytes.Equal(a, b) {
					t.Fatalf("page %d of block %d of die %d: %v, %v, want %v, %v", page, block, die, a, e, b, f)
				}
			}
		}
	}
}

// plainWrite is the document's, one die after the other.
func plainWrite(n *nand.Nand, blocks []int, at int, l [][]byte) api.Errno {
	if len(blocks) != n.Geometry().Dies || len(l) != n.Geometry().Dies {
		return api.ErrArg
	}
	var e api.Errno
	for die := 0; die < len(blocks) && e == api.OK; die++ {
		e = n.Program(die, blocks[die], at, page.Encode(l[die]))
	}
	return e
}

func plainRead(n *nand.Nand, blocks []int, at int) ([]api.Page, api.Errno) {
	if len(blocks) != n.Geometry().Dies {
		return nil, api.ErrArg
	}
	var pages []api.Page
	for die := 0; die < len(blocks); die++ {
		raw, e := n.Read(die, blocks[die], at)
		if e != api.OK {
			return nil, e
		}
		pages = append(pages, page.Decode(raw))
	}
	return pages, api.OK
}

func plainErase(n *nand.Nand, blocks []int) api.Errno {
	if len(blocks) != n.Geometry().Dies {
		return api.ErrArg
	}
	var e api.Errno
	for die := 0; die < len(blocks) && e == api.OK; die++ {
		e = n.Erase(die, blocks[die])
	}
	return e
}

// anyBlocks are mostly those of one of two superblocks, at times with another block on one die, or too few or too many.
func (d *dice) anyBlocks(g api.Geometry) []int {
	blocks := stairs(g, d.of(2))
	switch d.of(20) {
	case 0:
		blocks[d.of(g.Dies)] = d.of(g.Blocks+4) - 2
	case 1:
		blocks[d.of(g.Dies)] = far[d.of(len(far))]
	case 2:
		return blocks[:d.of(g.Dies)]
	case 3:
		return append(blocks, d.of(g.Blocks))
	}
	return blocks
}

// anyRow is mostly one that may be written.
func (d *dice) anyRow(g api.Geometry) [][]byte {
	l := d.row(g.Dies)
	switch d.of(20) {
	case 0:
		l[d.of(g.Dies)] = d.bytes(d.of(100))
	case 1:
		return l[:d.of(g.Dies)]
	case 2:
		return append(l, d.bytes(48))
	}
	return l
}

// befall does the same from outside to both flashes: noise, a Stop, power.
func (w twins) befall(d *dice, g api.Geometry) {
	switch d.of(6) {
	case 0:
		die, block, page, l := d.of(g.Dies), d.of(g.Blocks), d.of(g.Pages), d.noise(d.of(20), d.of(6), d.of(6))
		w.one.Noise(die, block, page, l)
		w.other.Noise(die, block, page, l)
	case 1:
		k, mask := d.of(3*g.Dies), d.bytes(d.of(70))
		w.one.Stop(k, mask)
		w.other.Stop(k, mask)
	case 2:
		w.one.Power()
		w.other.Power()
	}
}

// call makes the same call on both flashes; told is which one it was, and what both answered.
func (w twins) call(t *testing.T, d *dice, g api.Geometry) told {
	t.Helper()
	blocks, at := d.anyBlocks(g), d.of(g.Pages+2)-1
	switch d.of(6) {
	case 0:
		got, want := rowio.Erase(w.one, blocks), plainErase(w.other, blocks)
		wantErrno(t, "Erase", got, want)
		return told{"Erase", got}
	case 1:
		a, got := rowio.Read(w.one, blocks, at)
		b, want := plainRead(w.other, blocks, at)
		if !samePages(a, b) {
			t.Fatalf("Read(%v, %d): %v, want %v", blocks, at, a, b)
		}
		wantErrno(t, "Read", got, want)
		return told{"Read", got}
	}
	l := d.anyRow(g)
	got, want := rowio.Write(w.one, blocks, at, l), plainWrite(w.other, blocks, at, l)
	wantErrno(t, "Write", got, want)
	return told{"Write", got}
}

type told struct {
	call string
	e    api.Errno
}

// Any calls, many of them refused or cut, on one flash by rowio and on the other die by die.
func TestP1201AnyCalls(t *testing.T) {
	seen := map[told]int{}
	for _, g := range three {
		for round := range 80 {
			d := &dice{uint64(round)}
			var bad [][2]int
			for range round % 3 {
				bad = append(bad, [2]int{d.of(g.Dies), d.of(g.Blocks)})
			}
			w := twins{flash(t, g, bad...), flash(t, g, bad...)}
			for range 100 {
				w.befall(d, g)
				seen[w.call(t, d, g)]++
				wantCounts(t, w.one, w.other.Ops(), w.other.Wrong())
			}
			wantTwins(t, w)
			w.one.Power()
			w.other.Power()
			wantTwins(t, w)
		}
	}
	for _, call := range []string{"Write", "Read", "Erase"} {
		for _, e := range []api.Errno{api.OK, api.ErrArg, api.ErrDead} {
			if seen[told{call, e}] < 200 {
				t.Errorf("%s: %v was answered %d times alone", call, e, seen[told{call, e}])
			}
		}
	}
}
