package rowio_test

import (
	"bytes"
	"testing"

	"ramekin/api"
	"ramekin/page"
)

// States of pages: the zero one is Blank.
var (
	blankPage = api.Page{State: api.Blank}
	badPage   = api.Page{State: api.Bad}
)

func TestExample1(t *testing.T) {
	for _, g := range three {
		n := flash(t, g)
		for shift := range g.Blocks {
			for at := range g.Pages {
				wantRead(t, n, stairs(g, shift), at, make([]api.Page, g.Dies))
			}
		}
		wantHeld(t, n, nil)
	}
}

// The pages of a row are those of its own dies, blocks and number alone.
func TestP1201ReadWhereNothingElseIs(t *testing.T) {
	for _, g := range three {
		blocks := stairs(g, 0)
		for die := range g.Dies {
			n := flash(t, g)
			for at := range g.Pages {
				b := (&dice{uint64(at)}).bytes(48)
				wantErrno(t, "Program", n.Program(die, blocks[die], at, page.Encode(b)), api.OK)
				wantRead(t, n, blocks, at, with(make([]api.Page, g.Dies), die, api.Page{State: api.Good, B: b}))
				wantRead(t, n, stairs(g, 1), at, make([]api.Page, g.Dies))
			}
		}
	}
}

func TestP1201ReadOfBlocksThatAreNone(t *testing.T) {
	for _, g := range three {
		blocks := stairs(g, 1)
		n, rows, _ := written(t, g, blocks, 2)
		for die := range g.Dies {
			for _, block := range noBlocks(g) {
				for at := range g.Pages {
					wantNoRead(t, n, inPlaceOf(blocks, die, block), at, api.ErrArg, die, 1)
				}
			}
		}
		wantRead(t, n, blocks, 1, goods(rows[1]))
	}
}

func TestP1201ReadOfBadBlocks(t *testing.T) {
	for _, g := range three {
		blocks := stairs(g, 2)
		for die := range g.Dies {
			n := flash(t, g, [2]int{die, blocks[die]})
			for at := range g.Pages {
				wantNoRead(t, n, blocks, at, api.ErrArg, die, 1)
			}
			n = flash(t, g, [2]int{(die + 1) % g.Dies, blocks[die]})
			wantRead(t, n, blocks, 0, make([]api.Page, g.Dies))
		}
	}
}

// P6: the first die that refuses ends it.
func TestP1201ReadSeveralErrors(t *testing.T) {
	blocks := stairs(most, 0)
	n := flash(t, most, [2]int{4, blocks[4]}, [2]int{6, blocks[6]})
	wantNoRead(t, n, inPlaceOf(blocks, 7, -1), 0, api.ErrArg, 4, 1)
	wantNoRead(t, n, inPlaceOf(blocks, 2, 12), 0, api.ErrArg, 2, 1)
	wantNoRead(t, n, inPlaceOf(blocks, 2, 12), 8, api.ErrArg, 0, 1)
	wantNoRead(t, n, blocks[:7], -1, api.ErrArg, 0, 0)
}

// W3: up to 3 bits of each word of all pages are mended, and on one page of a row up to 5 of a word are told: it is bad.
func TestP1202NoiseInBounds(t *testing.T) {
	for _, g := range three {
		d := &dice{30}
		blocks := stairs(g, 3)
		n, rows, _ := written(t, g, blocks, 3)
		for round := range 30 {
			at := round % 3
			for die, block := range blocks {
				n.Noise(die, block, at, d.noise(d.of(17), d.of(4), d.of(4)))
			}
			wantRead(t, n, blocks, at, goods(rows[at]))
			die := round % g.Dies
			for many := 4; many <= 5; many++ {
				n.Noise(die, blocks[die], at, d.noise(0, many, d.of(6)))
				wantRead(t, n, blocks, at, with(goods(rows[at]), die, badPage))
				n.Noise(die, blocks[die], at, d.noise(0, d.of(6), many))
				wantRead(t, n, blocks, at, with(goods(rows[at]), die, badPage))
			}
		}
	}
}

// Beyond the bounds each page is what page.Decode makes of it: any of them bad, or blank; the row is no error of Read.
func TestP1201NoiseBeyondBounds(t *testing.T) {
	for _, g := range three {
		d := &dice{31}
		blocks := stairs(g, 4)
		n, rows, h := written(t, g, blocks, 2)
		for mask := range 1 << g.Dies {
			want := goods(rows[1])
			for die, block := range blocks {
				n.Noise(die, block, 1, nil)
				if mask>>die&1 == 1 {
					n.Noise(die, block, 1, d.noise(0, 4, d.of(4)))
					want[die] = badPage
				}
			}
			wantRead(t, n, blocks, 1, want)
		}
		for range 200 {
			var want []api.Page
			for die, block := range blocks {
				l := d.noise(d.of(33), d.of(9), d.of(9))
				n.Noise(die, block, 1, l)
				want = append(want, page.Decode(turned(h.of(die, block, 1), l)))
			}
			wantRead(t, n, blocks, 1, want)
		}
		for die, block := range blocks {
			n.Noise(die, block, 1, nil)
		}
		wantHeld(t, n, h)
	}
}

func turned(raw []byte, places []int) []byte {
	other := bytes.Clone(raw)
	for _, place := range places {
		other[place/8] ^= 1 << (place % 8)
	}
	return other
}

// Of a marker's 32 bits 16 may be wrong, and 17 may not.
func TestP1201NoiseOfMarkers(t *testing.T) {
	d := &dice{32}
	blocks := stairs(least, 5)
	n, rows, _ := written(t, least, blocks, 1)
	for die, block := range blocks {
		n.Noise(die, block, 0, d.noise(17, 0, 0))
		wantRead(t, n, blocks, 0, with(goods(rows[0]), die, blankPage))
		n.Noise(die, block, 0, d.noise(16, 0, 0))
		wantRead(t, n, blocks, 0, goods(rows[0]))
		n.Noise(die, block, 1, d.noise(15, 9, 9))
		wantRead(t, n, blocks, 1, make([]api.Page, 6))
		n.Noise(die, block, 1, d.noise(16, 0, 0))
		wantRead(t, n, blocks, 1, with(make([]api.Page, 6), die, badPage)) // 255s are no codeword
		n.Noise(die, block, 1, nil)
	}
}
