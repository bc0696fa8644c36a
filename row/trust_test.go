package row_test

import (
	"bytes"
	"slices"
	"testing"

	"ramekin/api"
	"ramekin/row"
)

// asItWas asks for the row, or for an error and nothing.
func asItWas(t *testing.T, s sample, l []api.Page, most int) {
	t.Helper()
	got, e := row.Decode(s.p.super, s.p.at, l, most)
	if e == api.OK && !sameRow(got, s.row) || e != api.OK && !sameRow(got, api.Row{}) {
		t.Fatalf("Decode(%+v, %d): %+v, %v, want %+v or nothing", l, most, got, e, s.row)
	}
}

// wrongly asks what comes of a wrong good page, with none and with each other one bad.
func wrongly(t *testing.T, s sample, wrong []api.Page, page int) {
	t.Helper()
	for most := range 3 {
		wantNoRow(t, s.p.super, s.p.at, wrong, most, api.ErrBad)
	}
	for i := range s.p.dies {
		if i != page {
			wantNoRow(t, s.p.super, s.p.at, with(wrong, badPage, i), 0, api.ErrMedia)
			wantNoRow(t, s.p.super, s.p.at, with(wrong, badPage, i), 1, api.ErrBad)
			wantNoRow(t, s.p.super, s.p.at, with(wrong, badPage, i), 2, api.ErrBad)
		}
	}
}

func TestP1103OneByteWrong(t *testing.T) {
	for _, s := range few() {
		for page := range s.p.dies {
			for at := range 48 {
				for _, by := range []byte{1, 128} {
					wrongly(t, s, spoilt(s.pages, page, at, by), page)
				}
			}
			for by := 1; by < 256; by++ {
				wrongly(t, s, spoilt(s.pages, page, by%48, byte(by)), page)
			}
		}
	}
}

// A whole page is another one: of another die, of another row, or of none.
func TestP1103OnePageWrong(t *testing.T) {
	d := &dice{30}
	for _, s := range few() {
		later, elsewhere, further := s.p, s.p, s.p
		later.serial++
		elsewhere.super++
		further.at++
		others := [][]api.Page{s.pages, slices.Repeat([]api.Page{{State: api.Good, B: make([]byte, 48)}}, s.p.dies), slices.Repeat([]api.Page{{State: api.Good, B: bytes.Repeat([]byte{255}, 48)}}, s.p.dies)}
		for _, p := range []place{later, elsewhere, further, s.p} {
			others = append(others, sampleOf(p, s.slots).pages, sampleOf(p, nil).pages, sampleOf(p, d.entries(s.p.dies-2)).pages)
		}
		for page := range s.p.dies {
			for _, l := range others {
				for _, p := range []api.Page{l[page], l[(page+1)%len(l)], l[len(l)-1]} {
					if !bytes.Equal(p.B, s.pages[page].B) {
						wrongly(t, s, with(s.pages, p, page), page)
					}
				}
			}
			for range 20 {
				wrongly(t, s, with(s.pages, api.Page{State: api.Good, B: d.bytes(48)}, page), page)
			}
		}
	}
}

// A page may be wrong in its state, and in how many bytes it has.
func TestP1103OnePageThatIsNone(t *testing.T) {
	d := &dice{31}
	for _, s := range few() {
		for page := range s.p.dies {
			right := s.pages[page].B
			for _, p := range []api.Page{blankPage, badPage, {State: 3}, {State: -1, B: right}, {State: api.Blank, B: right}, {State: api.Good}, {State: api.Good, B: right[:47]}, {State: api.Good, B: append(bytes.Clone(right), 0)}, {State: api.Bad, B: d.bytes(48)}} {
				l := with(s.pages, p, page)
				for i := range s.p.dies {
					for most := range 3 {
						asItWas(t, s, l, most)
						asItWas(t, s, with(l, badPage, i), most)
						asItWas(t, s, with(l, api.Page{State: 9, B: d.bytes(48)}, i), most)
					}
				}
			}
		}
	}
}

// While no page is bad, two may be wrong: they are told, too.
func TestP1103NoneBadAndTwoWrong(t *testing.T) {
	d := &dice{32}
	for _, s := range few() {
		for i := range s.p.dies {
			for j := range i {
				for range 20 {
					at := d.of(48)
					l := spoilt(spoilt(s.pages, i, at, byte(1+d.of(255))), j, at, byte(1+d.of(255)))
					wantNoRow(t, 3, 2, l, d.of(3), api.ErrBad)
				}
				for by := 1; by < 256; by += 2 {
					wantNoRow(t, 3, 2, spoilt(spoilt(s.pages, i, 30, byte(by)), j, 30, byte(by)), 0, api.ErrBad)
				}
			}
		}
	}
}

// Any rows, with anything but as much as the promise allows.
func TestP1103AnyRows(t *testing.T) {
	d := &dice{33}
	for range 5000 {
		p := d.place()
		s := sampleOf(p, d.entries(d.of(p.dies-1)))
		i, j := d.of(p.dies), d.of(p.dies)
		l := spoilt(s.pages, j, d.of(48), byte(d.of(256)))
		for range d.of(4) {
			l = spoilt(l, j, d.of(48), byte(d.of(256)))
		}
		same := samePages(l, s.pages)
		l = with(l, api.Page{State: d.one(append([]int{api.Bad}, noStates...)), B: d.bytes(48)}, i)
		if most := 1 + d.of(2); same || i == j {
			wantRow(t, p.super, p.at, l, most, s.row)
		} else {
			wantNoRow(t, p.super, p.at, l, most, api.ErrBad)
		}
	}
}
