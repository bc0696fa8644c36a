package row_test

import (
	"bytes"
	"math"
	"slices"
	"testing"

	"ramekin/api"
	"ramekin/entry"
	"ramekin/row"
)

func TestP1102DecodeReadsWhatEncodeMade(t *testing.T) {
	d := &dice{10}
	for _, s := range samples() {
		b, _ := row.Encode(s.p.dies, s.p.serial, s.p.super, s.p.at, s.slots)
		for most := range 3 {
			wantRow(t, s.p.super, s.p.at, pages(b), most, s.row)
			wantRow(t, s.p.super, s.p.at, s.pages, most, s.row)
		}
	}
	for range 1000 {
		p := d.place()
		l := d.entries(d.of(p.dies - 1))
		b, _ := row.Encode(p.dies, p.serial, p.super, p.at, l)
		wantRow(t, p.super, p.at, pages(b), d.of(3), plainRow(p, l))
	}
}

// The example's payloads, written out by hand, with each two of them bad in turn.
func TestP1102DecodeByHand(t *testing.T) {
	zeros := func(count int) string { return string(make([]byte, count)) }
	front := "\x09" + zeros(7) + "\x03\x02"
	l := pages([][]byte{
		[]byte(front + "\x00\x01" + "\x01" + zeros(7) + "\x05" + zeros(7) + "x" + zeros(19)),
		[]byte(front + "\x01\x02" + "\x02" + zeros(7) + "\x06" + zeros(7) + zeros(20)),
		[]byte(front + "\x02\x00" + zeros(36)),
		[]byte(front + "\x03\x03" + zeros(36)),
		[]byte(zeros(8) + "\x00\x00\x00\x00" + "\x03" + zeros(7) + "\x03" + zeros(7) + "x" + zeros(19)),
		[]byte("\x77" + zeros(7) + "\x11\x1E\x12\x1D" + "\x05" + zeros(7) + "\x09" + zeros(7) + "x" + zeros(19)),
	})
	want := api.Row{Serial: 9, At: 2, Slots: []api.Entry{{Kind: api.KData, Lba: 1, Seq: 5, Data: [16]byte{'x'}}, {Kind: api.KTrim, Lba: 2, Seq: 6}, {}, {Kind: api.KSeal}}}
	wantRow(t, 3, 2, l, 0, want)
	for i := range 6 {
		for j := range 6 {
			wantRow(t, 3, 2, with(l, badPage, i, j), 2, want)
		}
	}
}

func TestP1102DecodeHowManyPages(t *testing.T) {
	d := &dice{11}
	for count := range 20 {
		if count >= 6 && count <= 8 {
			continue
		}
		for most := range 3 {
			wantNoRow(t, 3, 2, make([]api.Page, count), most, api.ErrArg)
			wantNoRow(t, 3, 2, slices.Repeat([]api.Page{badPage}, count), most, api.ErrArg)
			if count > 2 && count < 17 {
				var h []api.Head
				for die := range count - 2 {
					h = append(h, api.Head{Serial: 5, Super: 3, Row: 2, Die: die})
				}
				wantNoRow(t, 3, 2, pages(written(h, d.entries(count-2))), most, api.ErrArg)
			}
		}
	}
	for _, s := range few() {
		for most := range 3 {
			if s.p.dies == 6 {
				wantNoRow(t, 3, 2, s.pages[:5], most, api.ErrArg)
			}
			for _, p := range []api.Page{s.pages[0], badPage, blankPage} {
				wantNoRow(t, 3, 2, append(slices.Clone(s.pages), p, p, p), most, api.ErrArg)
			}
		}
	}
	wantNoRow(t, 3, 2, nil, 0, api.ErrArg)
	wantNoRow(t, 0, 0, make([]api.Page, 1<<16+6), 2, api.ErrArg)
	wantNoRow(t, 0, 0, make([]api.Page, 256+7), 2, api.ErrArg)
}

func TestP1102DecodeMost(t *testing.T) {
	for _, s := range few() {
		n := s.p.dies
		for _, most := range append([]int{-1, 3, 4, 6, 255, 256, 258}, far...) {
			wantNoRow(t, 3, 2, s.pages, most, api.ErrArg)
			wantNoRow(t, 3, 2, with(s.pages, badPage, 1), most, api.ErrArg)
			wantNoRow(t, 3, 2, with(s.pages, blankPage, 1), most, api.ErrArg)
			wantNoRow(t, 3, 2, make([]api.Page, n), most, api.ErrArg)
			wantNoRow(t, 3, 2, slices.Repeat([]api.Page{badPage}, n), most, api.ErrArg)
			wantNoRow(t, 9, 9, s.pages, most, api.ErrArg)
		}
	}
}

// Of blank pages neither what they hold nor where they were looked for counts.
func TestP1102DecodeAllBlank(t *testing.T) {
	for _, s := range few() {
		n := s.p.dies
		held := slices.Clone(s.pages)
		for i := range held {
			held[i].State = api.Blank
		}
		for most := range 3 {
			for _, v := range append([]int{-1, 0, 3, 255, 256}, far...) {
				wantNoRow(t, v, 2, make([]api.Page, n), most, api.ErrNone)
				wantNoRow(t, 3, v, make([]api.Page, n), most, api.ErrNone)
			}
			wantNoRow(t, 3, 2, held, most, api.ErrNone)
		}
	}
}

// Each choice of pages is blank, and beside it each other choice bad.
func TestP1102DecodeSomeBlank(t *testing.T) {
	for _, s := range few() {
		n := s.p.dies
		for blanks := 1; blanks < 1<<n-1; blanks++ {
			l := with(s.pages, blankPage, chosen(blanks)...)
			for most := range 3 {
				wantNoRow(t, 3, 2, l, most, api.ErrBad)
			}
			for lost := range 1 << n {
				if lost&blanks == 0 {
					wantNoRow(t, 3, 2, with(l, badPage, chosen(lost)...), lost%3, api.ErrBad)
				}
			}
		}
		for i := range n {
			held := slices.Clone(s.pages)
			held[i].State = api.Blank
			wantNoRow(t, 3, 2, held, 2, api.ErrBad)
		}
	}
}

// Each choice of pages is bad, under each most: what is too much is told, all else is read.
func TestP1102DecodeBad(t *testing.T) {
	for _, s := range append(few(), samples()...) {
		for lost := range 1 << s.p.dies {
			places := chosen(lost)
			l := with(s.pages, badPage, places...)
			for most := range 3 {
				if len(places) > most {
					wantNoRow(t, s.p.super, s.p.at, l, most, api.ErrMedia)
				} else {
					wantRow(t, s.p.super, s.p.at, l, most, s.row)
				}
			}
		}
	}
}

// Whatever a bad page holds, it does not count.
func TestP1102DecodeWhatBadPagesHold(t *testing.T) {
	d := &dice{12}
	for _, s := range few() {
		n := s.p.dies
		for _, b := range [][]byte{nil, {}, {1}, make([]byte, 47), make([]byte, 48), make([]byte, 49), bytes.Repeat([]byte{255}, 48), d.bytes(48), d.bytes(5000), s.pages[0].B, s.pages[n-1].B} {
			p := api.Page{State: api.Bad, B: b}
			for i := range n {
				wantRow(t, 3, 2, with(s.pages, p, i), 1, s.row)
				wantNoRow(t, 3, 2, with(s.pages, p, i), 0, api.ErrMedia)
				for j := range n {
					wantRow(t, 3, 2, with(with(s.pages, p, i), badPage, j), 2, s.row)
				}
			}
		}
	}
}

func TestP1102DecodeStatesThatAreNone(t *testing.T) {
	for _, s := range few() {
		n := s.p.dies
		for _, state := range noStates {
			for i := range n {
				for _, p := range []api.Page{{State: state}, {State: state, B: s.pages[i].B}, {State: state, B: make([]byte, 48)}} {
					l := with(s.pages, p, i)
					wantNoRow(t, 3, 2, l, 0, api.ErrMedia)
					wantRow(t, 3, 2, l, 1, s.row)
					wantRow(t, 3, 2, l, 2, s.row)
					wantRow(t, 3, 2, with(l, badPage, (i+1)%n), 2, s.row)
					wantNoRow(t, 3, 2, with(l, badPage, (i+1)%n), 1, api.ErrMedia)
					wantNoRow(t, 3, 2, with(l, badPage, (i+1)%n, (i+2)%n), 2, api.ErrMedia)
					wantNoRow(t, 3, 2, with(l, blankPage, (i+1)%n), 2, api.ErrBad)
					wantNoRow(t, 3, 2, with(make([]api.Page, n), p, i), 2, api.ErrBad)
				}
			}
			wantNoRow(t, 3, 2, slices.Repeat([]api.Page{{State: state}}, n), 2, api.ErrMedia)
		}
	}
}

// Neither one page of other than 48 bytes is read, nor all of them, though these would stand together.
func TestP1102DecodeGoodPagesOfOtherLengths(t *testing.T) {
	d := &dice{13}
	for _, s := range few() {
		n := s.p.dies
		for _, count := range []int{0, 1, 24, 47, 49, 96, 304, 1 << 16} {
			odd := slices.Clone(s.pages)
			for i := range n {
				odd[i].B = append(bytes.Clone(s.pages[i].B), make([]byte, count)...)[:count]
			}
			for most := range 3 {
				wantNoRow(t, 3, 2, odd, most, api.ErrBad)
				wantNoRow(t, 3, 2, with(odd, badPage, chosen(1<<most-1)...), most, api.ErrBad)
				for i := range n {
					for _, p := range []api.Page{odd[i], {State: api.Good, B: d.bytes(count)}} {
						l := with(s.pages, p, i)
						wantNoRow(t, 3, 2, l, most, api.ErrBad)
						for j := range n {
							if j != i && most > 0 {
								wantNoRow(t, 3, 2, with(l, badPage, j), most, api.ErrBad)
								wantNoRow(t, 3, 2, with(l, badPage, j, (i+1)%n), 2, api.ErrBad)
							}
						}
					}
				}
			}
		}
		wantNoRow(t, 3, 2, with(s.pages, api.Page{State: api.Good}, 0), 2, api.ErrBad)
	}
}

// A row stands nowhere else than where it was written.
func TestP1102DecodeAnotherPlace(t *testing.T) {
	for _, s := range append(few(), samples()...) {
		for _, lost := range [][]int{nil, {0}, {s.p.dies - 3}, {0, s.p.dies - 3}, {s.p.dies - 2, s.p.dies - 1}} {
			l := with(s.pages, badPage, lost...)
			wantRow(t, s.p.super, s.p.at, l, 2, s.row)
			for _, by := range []int{1, -1, 2, -2, 3, 255, 256, -256, 512, 1 << 32, -1 << 32, math.MinInt64} {
				wantNoRow(t, s.p.super+by, s.p.at, l, 2, api.ErrBad)
				wantNoRow(t, s.p.super, s.p.at+by, l, 2, api.ErrBad)
				wantNoRow(t, s.p.super+by, s.p.at-by, l, 2, api.ErrBad)
			}
			if s.p.super != s.p.at {
				wantNoRow(t, s.p.at, s.p.super, l, 2, api.ErrBad)
			}
		}
	}
}

// One head is not as the others are, under parities that are right: none but the head tells it.
func TestP1102DecodeOneHeadThatIsAnothers(t *testing.T) {
	for _, s := range few() {
		right := heads(s.p)
		for i := range right {
			for _, change := range []func(h *api.Head){
				func(h *api.Head) { h.Super++ }, func(h *api.Head) { h.Super-- }, func(h *api.Head) { h.Super += 128 }, func(h *api.Head) { h.Super = 0 },
				func(h *api.Head) { h.Row++ }, func(h *api.Head) { h.Row-- }, func(h *api.Head) { h.Row += 128 }, func(h *api.Head) { h.Row = 0 },
				func(h *api.Head) { h.Die++ }, func(h *api.Head) { h.Die-- }, func(h *api.Head) { h.Die += 8 }, func(h *api.Head) { h.Die = (h.Die + 2) % len(right) },
				func(h *api.Head) { h.Serial++ }, func(h *api.Head) { h.Serial-- }, func(h *api.Head) { h.Serial += 1 << 32 }, func(h *api.Head) { h.Serial = 1 }, func(h *api.Head) { h.Serial = 1 << 40 },
				func(h *api.Head) { h.Super, h.Row = h.Row, h.Super },
			} {
				h := slices.Clone(right)
				change(&h[i])
				notRead(t, s, pages(written(h, s.slots)))
			}
		}
	}
}

// notRead asks for ErrBad, under each most, with as many bad.
func notRead(t *testing.T, s sample, l []api.Page) {
	t.Helper()
	for most := range 3 {
		wantNoRow(t, s.p.super, s.p.at, l, most, api.ErrBad)
	}
	for i := range l {
		wantNoRow(t, s.p.super, s.p.at, with(l, badPage, i), 1, api.ErrBad)
		wantNoRow(t, s.p.super, s.p.at, with(l, badPage, i, (i+1)%len(l)), 2, api.ErrBad)
	}
}

// All heads but the first one's are of another row, or are of no row that may be.
func TestP1102DecodeSerials(t *testing.T) {
	for _, s := range few() {
		for i := 1; i < s.p.dies-2; i++ {
			h := heads(s.p)
			for k := range i {
				h[k].Serial = 1
			}
			notRead(t, s, pages(written(h, s.slots)))
		}
		for _, serial := range []int{0, -1, 1<<40 + 1, 1 << 56, math.MinInt64, math.MaxInt64} {
			p := s.p
			p.serial = serial
			notRead(t, s, pages(written(heads(p), s.slots)))
		}
		for _, serial := range []int{1, 2, 1<<40 - 1, 1 << 40} {
			p := s.p
			p.serial = serial
			wantRow(t, 3, 2, pages(written(heads(p), s.slots)), 0, plainRow(p, s.slots))
		}
	}
}

// Each of entry.Parse's errors, under parities that are right.
func TestP1102DecodeSlotsThatAreNone(t *testing.T) {
	for _, s := range few() {
		for i := range s.p.dies - 2 {
			for _, no := range refusedEntries {
				l := slices.Clone(s.slots)
				l[i] = no
				b := written(heads(s.p), l)
				if _, _, err := entry.Parse(b[i]); err != api.OK {
					notRead(t, s, pages(b))
				}
			}
			for at := 44; at < 48; at++ {
				b := written(heads(s.p), s.slots)[:s.p.dies-2]
				b[i][at] = 1
				notRead(t, s, pages(closed(b)))
			}
		}
		noughts := make([][]byte, s.p.dies)
		for i := range noughts {
			noughts[i] = make([]byte, 48)
		}
		notRead(t, s, pages(noughts))
	}
}

// A page that stands in another die's place, or there as well, with the parities of the right row and with such as fit.
func TestP1102DecodePagesInOtherPlaces(t *testing.T) {
	for _, s := range few() {
		n := s.p.dies
		for i := range n {
			for j := range n {
				if i == j {
					continue
				}
				swapped := slices.Clone(s.pages)
				swapped[i], swapped[j] = swapped[j], swapped[i]
				wantNoRow(t, 3, 2, swapped, 0, api.ErrBad)
				wantNoRow(t, 3, 2, with(s.pages, s.pages[j], i), 0, api.ErrBad)
				wantNoRow(t, 3, 2, with(s.pages, s.pages[j], i), 2, api.ErrBad)
				if i < n-2 && j < n-2 {
					b := written(heads(s.p), s.slots)[:n-2]
					b[i], b[j] = b[j], b[i]
					notRead(t, s, pages(closed(b)))
					b[i] = b[j]
					notRead(t, s, pages(closed(b)))
				}
			}
		}
	}
}

// Each choice of pages is another row's of the same place: neither row is read, nor any other, unless what was chosen is what was there.
func TestP1102DecodeTwoRowsMixed(t *testing.T) {
	d := &dice{14}
	for _, s := range few() {
		later, other := s.p, s.p
		later.serial++
		other.serial = 1<<40 - 5
		for _, beside := range []sample{sampleOf(later, s.slots), sampleOf(other, d.entries(s.p.dies-2)), sampleOf(s.p, d.entries(s.p.dies-2)), sampleOf(s.p, nil)} {
			for mask := range 1 << s.p.dies {
				l := slices.Clone(s.pages)
				for _, i := range chosen(mask) {
					l[i] = beside.pages[i]
				}
				switch {
				case samePages(l, s.pages):
					wantRow(t, 3, 2, l, 0, s.row)
				case samePages(l, beside.pages):
					wantRow(t, 3, 2, l, 0, beside.row)
				default:
					wantNoRow(t, 3, 2, l, 0, api.ErrBad)
					wantNoRow(t, 3, 2, l, 2, api.ErrBad)
				}
			}
		}
	}
}

func samePages(a, b []api.Page) bool {
	return slices.EqualFunc(a, b, func(x, y api.Page) bool { return x.State == y.State && bytes.Equal(x.B, y.B) })
}

// Parities of another row, of data alone, or none at all.
func TestP1102DecodeParitiesThatAreNone(t *testing.T) {
	for _, s := range few() {
		n := s.p.dies
		p, q := s.pages[n-2], s.pages[n-1]
		nought := api.Page{State: api.Good, B: make([]byte, 48)}
		for _, last := range [][2]api.Page{{q, p}, {p, p}, {q, q}, {nought, q}, {p, nought}, {nought, nought}, {s.pages[0], q}, {p, s.pages[n-3]}} {
			l := slices.Clone(s.pages)
			l[n-2], l[n-1] = last[0], last[1]
			if samePages(l, s.pages) {
				continue
			}
			for most := range 3 {
				wantNoRow(t, 3, 2, l, most, api.ErrBad)
			}
		}
		wantRow(t, 3, 2, with(s.pages, badPage, n-2, n-1), 2, s.row)
	}
}

// P6: of several errors the first one in the document's order is told.
func TestP1102DecodeFirstError(t *testing.T) {
	for _, s := range few() {
		n := s.p.dies
		short := api.Page{State: api.Good, B: make([]byte, 47)}
		five := []api.Page{blankPage, blankPage, blankPage, blankPage, blankPage}
		wantNoRow(t, -1, -1, five, 7, api.ErrArg)
		wantNoRow(t, -1, -1, five, 0, api.ErrArg)
		wantNoRow(t, -1, -1, make([]api.Page, n), 3, api.ErrArg)
		wantNoRow(t, -1, -1, make([]api.Page, n), 0, api.ErrNone)
		wantNoRow(t, 3, 2, with(with(s.pages, blankPage, 0), badPage, 1, 2, 3), 0, api.ErrBad)
		wantNoRow(t, 3, 2, with(make([]api.Page, n), badPage, 1, 2, 3, 4, 5), 0, api.ErrBad)
		wantNoRow(t, -1, -1, slices.Repeat([]api.Page{{State: 7}}, n), 2, api.ErrMedia)
		wantNoRow(t, 3, 2, with(with(s.pages, short, 0), badPage, 1, 2, 3), 2, api.ErrMedia)
		wantNoRow(t, 3, 2, with(with(s.pages, short, 1, 2, 3, 4), badPage, 0), 0, api.ErrMedia)
		wantNoRow(t, 3, 2, with(spoilt(s.pages, 4, 3, 9), badPage, 0), 0, api.ErrMedia)
		wantNoRow(t, 9, 9, with(s.pages, badPage, 0), 0, api.ErrMedia)
		wantNoRow(t, 9, 9, with(s.pages, badPage, 0, n-2, n-1), 2, api.ErrMedia)
		wantNoRow(t, 9, 9, with(s.pages, blankPage, n-1), 2, api.ErrBad)
	}
}

// Pages and numbers of any kind, many of them near to a row.
func TestP1102DecodeOfAny(t *testing.T) {
	d := &dice{15}
	seen := map[api.Errno]int{}
	for range 20000 {
		p := d.place()
		s := sampleOf(p, d.entries(d.of(p.dies-1)))
		l := slices.Clone(s.pages)
		super, at, most := p.super, p.at, d.of(3)
		for range d.of(4) {
			i := d.of(len(l))
			switch d.of(9) {
			case 0:
				l = with(l, api.Page{State: d.one(noStates), B: d.bytes(d.of(50))}, i)
			case 1:
				l = with(l, badPage, i)
			case 2:
				l = with(l, blankPage, i)
			case 3:
				l = with(l, api.Page{State: api.Good, B: d.bytes(48)}, i)
			case 4:
				l = with(l, api.Page{State: api.Good, B: append(bytes.Clone(l[i].B), d.bytes(50)...)[:d.of(50)]}, i)
			case 5:
				most = d.of(6) - 2
			case 6:
				super, at = super+d.of(2), at-d.of(2)
			case 7:
				l = append(l, l[i])
			case 8:
				l = l[:len(l)-1]
			}
		}
		seen[agreesDecode(t, super, at, l, most)]++
		seen[agreesDecode(t, super, at, l[:d.of(len(l)+1)], most)]++
		seen[agreesDecode(t, super, at, make([]api.Page, 4+d.of(6)), most)]++
	}
	for _, e := range []api.Errno{api.OK, api.ErrArg, api.ErrNone, api.ErrBad, api.ErrMedia} {
		if seen[e] < 1000 {
			t.Errorf("only %d of %v", seen[e], e)
		}
	}
}

func TestExample1(t *testing.T) {
	for n := 6; n <= 8; n++ {
		if r, e := row.Decode(0, 0, make([]api.Page, n), 0); e != api.ErrNone || !sameRow(r, api.Row{}) {
			t.Errorf("Decode of blank pages: %+v, %v", r, e)
		}
	}
}
