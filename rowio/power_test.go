package rowio_test

import (
	"slices"
	"testing"

	"ramekin/api"
	"ramekin/nand"
	"ramekin/page"
	"ramekin/rowio"
)

// masks are none, shorter than a page, as long, longer; of all bits, of none, of the marker alone, of all but the marker.
func masks() [][]byte {
	d := &dice{40}
	marker := append([]byte{255, 255, 255, 255}, make([]byte, 56)...)
	words := append(make([]byte, 4), filled(255)[:56]...)
	return [][]byte{nil, {0}, {255}, {0x0F}, d.bytes(7), d.bytes(60), d.bytes(61), filled(255), marker, words}
}

// cut lets the power go; the blocks stay as they are.
func cut(t *testing.T, n *nand.Nand, blocks []int) {
	t.Helper()
	n.Stop(1, nil)
	wantErrno(t, "Program", n.Program(0, (blocks[0]+1)%n.Geometry().Blocks, 0, blank()), api.ErrDead)
}

// onlyIf is a count, or 0.
func onlyIf(is bool, count int) int {
	if is {
		return count
	}
	return 0
}

func TestP1201NoPower(t *testing.T) {
	for _, g := range three {
		d := &dice{41}
		blocks := stairs(g, 0)
		n, rows, h := written(t, g, blocks, 2)
		cut(t, n, blocks)
		l := d.row(g.Dies)
		short := slices.Clone(l)
		short[0] = l[0][:47]
		for range 2 {
			wantWrite(t, n, blocks, 2, l, api.ErrDead, 0, 0)
			wantNoRead(t, n, blocks, 0, api.ErrDead, 0, 0)
			wantErase(t, n, blocks, api.ErrDead, 0, 0)
			// Flash asks for its power ahead of all else; how long the lists are is asked ahead of that.
			wantWrite(t, n, blocks, -1, short, api.ErrDead, 0, 0)
			wantWrite(t, n, inPlaceOf(blocks, 0, -1), 0, make([][]byte, g.Dies), api.ErrDead, 0, 0)
			wantNoRead(t, n, inPlaceOf(blocks, 0, g.Blocks), g.Pages, api.ErrDead, 0, 0)
			wantErase(t, n, inPlaceOf(blocks, 0, g.Blocks), api.ErrDead, 0, 0)
			for _, wrong := range [][]int{nil, blocks[1:], append(slices.Clone(blocks), 0)} {
				wantWrite(t, n, wrong, 2, d.row(len(wrong)), api.ErrArg, 0, 0)
				wantWrite(t, n, wrong, 2, l, api.ErrArg, 0, 0)
				wantNoRead(t, n, wrong, 0, api.ErrArg, 0, 0)
				wantErase(t, n, wrong, api.ErrArg, 0, 0)
			}
			wantWrite(t, n, blocks, 2, l[1:], api.ErrArg, 0, 0)
			wantWrite(t, n, blocks, 2, d.row(g.Dies+1), api.ErrArg, 0, 0)
		}
		if !n.Dead() {
			t.Fatal("there is power")
		}
		n.Power()
		wantHeld(t, n, h)
		wantErases(t, n, nil)
		wantRead(t, n, blocks, 1, goods(rows[1]))
		wantWrite(t, n, blocks, 2, l, api.OK, g.Dies, 0)
	}
}

// At each Program of a Write, of the first row, a middle one, the last.
func TestP1201PowerGoesInAWrite(t *testing.T) {
	for _, g := range three {
		for _, at := range []int{0, 1, g.Pages - 1} {
			for die := range g.Dies {
				for _, mask := range masks() {
					blocks := stairs(g, die)
					n, rows, h := written(t, g, blocks, at)
					l := (&dice{42}).row(g.Dies)
					n.Stop(die+1, mask)
					wantWrite(t, n, blocks, at, l, api.ErrDead, die+1, 0)
					if !n.Dead() {
						t.Fatal("there is power")
					}
					n.Power()
					torn := plainMix(blank(), page.Encode(l[die]), mask)
					h.write(blocks, at, l, die)
					h[[3]int{die, blocks[die], at}] = torn
					wantHeld(t, n, h)
					wantRead(t, n, blocks, at, tornRow(l, die, torn))
					for ahead := range at {
						wantRead(t, n, blocks, ahead, goods(rows[ahead]))
					}
					wantErases(t, n, nil)
					for i, block := range blocks {
						wantNext(t, n, i, block, at+onlyIf(i <= die, 1))
					}
				}
			}
		}
	}
}

// tornRow is what is read of a row that was written up to a die, which was torn.
func tornRow(l [][]byte, die int, torn []byte) []api.Page {
	want := make([]api.Page, len(l))
	copy(want, goods(l[:die]))
	want[die] = page.Decode(torn)
	return want
}

// A torn page by hand: of noughts each bit that is left 1 is a wrong one.
func TestP1201ReadOfTornPages(t *testing.T) {
	for _, c := range []struct {
		left []int // bits that the mask leaves out
		want api.Page
	}{
		{nil, api.Page{State: api.Good, B: make([]byte, 48)}},
		{[]int{32, 33, 255, 256, 478, 479}, api.Page{State: api.Good, B: make([]byte, 48)}},
		{[]int{32, 33, 34, 255}, badPage},
		{[]int{256, 257, 258, 479}, badPage},
		{(&dice{43}).noise(16, 3, 3), api.Page{State: api.Good, B: make([]byte, 48)}},
		{(&dice{44}).noise(16, 0, 4), badPage},
		{(&dice{45}).noise(17, 0, 0), blankPage},
		{(&dice{46}).noise(32, 224, 224), blankPage},
	} {
		for die := range 6 {
			n := flash(t, least)
			n.Stop(die+1, turned(filled(255), c.left))
			l := slices.Repeat([][]byte{make([]byte, 48)}, 6)
			wantWrite(t, n, stairs(least, 0), 0, l, api.ErrDead, die+1, 0)
			n.Power()
			want := make([]api.Page, 6)
			copy(want, goods(l[:die]))
			wantRead(t, n, stairs(least, 0), 0, with(want, die, c.want))
		}
	}
}

// At each Erase of an Erase, of blocks with none, some and all of their pages written.
func TestP1201PowerGoesInAnErase(t *testing.T) {
	for _, g := range three {
		for _, rows := range []int{0, 2, g.Pages} {
			for die := range g.Dies {
				for _, mask := range masks() {
					blocks := stairs(g, die)
					n, _, h := written(t, g, blocks, rows)
					n.Stop(die+1, mask)
					wantErase(t, n, blocks, api.ErrDead, die+1, 0)
					if !n.Dead() {
						t.Fatal("there is power")
					}
					n.Power()
					left := h.without(blocks, die)
					for at := range rows {
						left[[3]int{die, blocks[die], at}] = plainMix(h.of(die, blocks[die], at), blank(), mask)
					}
					wantHeld(t, n, left)
					wantErases(t, n, once(blocks, die+1))
					for i, block := range blocks {
						wantNext(t, n, i, block, onlyIf(i >= die, rows))
					}
				}
			}
		}
	}
}

// Reads bring a Stop no nearer, and it may come behind a whole row.
func TestP1201StopBehindARow(t *testing.T) {
	for _, g := range three {
		d := &dice{47}
		blocks := stairs(g, 1)
		n := flash(t, g)
		first, second := d.row(g.Dies), d.row(g.Dies)
		n.Stop(2*g.Dies+1, []byte{0xF0})
		wantRead(t, n, blocks, 0, make([]api.Page, g.Dies))
		wantWrite(t, n, blocks, 0, first, api.OK, g.Dies, 0)
		wantRead(t, n, blocks, 0, goods(first))
		wantNoRead(t, n, blocks, -1, api.ErrArg, 0, 1)
		wantWrite(t, n, blocks, 0, first, api.ErrArg, 0, 1)
		wantErase(t, n, inPlaceOf(blocks, 0, -1), api.ErrArg, 0, 1)
		wantWrite(t, n, blocks, 1, second, api.OK, g.Dies, 0)
		wantErase(t, n, blocks, api.ErrDead, 1, 0)
		n.Power()
		wantRead(t, n, blocks, 1, with(goods(second), 0, page.Decode(plainMix(page.Encode(second[0]), blank(), []byte{0xF0}))))
		wantErases(t, n, once(blocks, 1))
	}
}

// What was torn is erased, and written again.
func TestP1202BehindACut(t *testing.T) {
	for _, g := range three {
		d := &dice{48}
		blocks := stairs(g, 2)
		for k := 1; k <= g.Dies; k++ {
			n, _, _ := written(t, g, blocks, 1)
			n.Stop(k, d.bytes(60))
			wantErrno(t, "Write", rowio.Write(n, blocks, 1, d.row(g.Dies)), api.ErrDead)
			n.Power()
			n.Stop(k, d.bytes(60))
			wantErrno(t, "Erase", rowio.Erase(n, blocks), api.ErrDead)
			n.Power()
			wantErase(t, n, blocks, api.OK, g.Dies, 0)
			for at := range g.Pages {
				wantRead(t, n, blocks, at, make([]api.Page, g.Dies))
			}
			for at := range g.Pages {
				l := d.row(g.Dies)
				wantWrite(t, n, blocks, at, l, api.OK, g.Dies, 0)
				wantRead(t, n, blocks, at, goods(l))
			}
		}
	}
}
