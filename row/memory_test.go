package row_test

import (
	"bytes"
	"math"
	"slices"
	"testing"

	"ramekin/api"
	"ramekin/row"
)

// scribble fills bytes, their spare room too.
func scribble(b []byte) {
	b = b[:cap(b)]
	for i := range b {
		b[i] ^= 0x5A
	}
}

// scrawl fills slots, their spare room too.
func scrawl(l []api.Entry) {
	l = l[:cap(l)]
	for i := range l {
		l[i] = api.Entry{Kind: 77, Lba: 77, Seq: 77, Data: [16]byte{7}}
	}
}

// roomyEntries is l with spare room behind it, and the whole of it.
func roomyEntries(l []api.Entry) (front, whole []api.Entry) {
	whole = append(slices.Clone(l), slices.Repeat([]api.Entry{{Kind: api.KSeal, Lba: 9}}, 12)...)
	return whole[:len(l)], whole
}

// roomyPages is l with spare room behind it and behind what each page holds; all that memory.
func roomyPages(l []api.Page) (front, whole []api.Page, held [][]byte) {
	for _, p := range l {
		b := append(bytes.Clone(p.B), bytes.Repeat([]byte{0xEE}, 60)...)
		held = append(held, b)
		whole = append(whole, api.Page{State: p.State, B: b[:len(p.B)]})
	}
	whole = append(whole, slices.Repeat([]api.Page{{State: api.Good, B: []byte{1, 2, 3}}}, 12)...)
	return whole[:len(l)], whole, held
}

func copied(l [][]byte) [][]byte {
	var all [][]byte
	for _, b := range l {
		all = append(all, bytes.Clone(b))
	}
	return all
}

// somePages are rows that are read, and such as are not, each with its most.
func somePages(s sample) map[int][][]api.Page {
	n := s.p.dies
	return map[int][][]api.Page{
		0: {s.pages, with(s.pages, badPage, 1), make([]api.Page, n), with(s.pages, blankPage, 2), spoilt(s.pages, 3, 3, 3), nil},
		1: {s.pages, with(s.pages, badPage, 1), with(s.pages, api.Page{State: 5, B: s.pages[1].B}, n-1), with(s.pages, api.Page{State: api.Good, B: make([]byte, 47)}, 0)},
		2: {s.pages, with(s.pages, badPage, 0, 1), with(s.pages, badPage, n-2, n-1), with(s.pages, api.Page{State: -1, B: make([]byte, 99)}, 0, n-1), with(s.pages, badPage, 0, 1, 2)},
		3: {s.pages},
	}
}

func TestP2EncodeWhatWasHandedInStays(t *testing.T) {
	for _, s := range samples() {
		for _, l := range [][]api.Entry{s.slots, append(slices.Clone(s.slots), api.Entry{Kind: 9}), make([]api.Entry, 9)} {
			front, whole := roomyEntries(l)
			was := slices.Clone(whole)
			got, _ := row.Encode(s.p.dies, s.p.serial, s.p.super, s.p.at, front)
			for _, b := range got {
				scribble(b)
			}
			if !slices.Equal(whole, was) {
				t.Fatalf("Encode(%+v, %+v): what was handed in changed: %+v", s.p, l, whole)
			}
		}
	}
}

// What stands behind the slots is not of them, and what becomes of them does not count any more.
func TestP2EncodeSpareRoomIsNotReadAndNothingKept(t *testing.T) {
	for _, s := range samples() {
		front, whole := roomyEntries(s.slots)
		got, e := row.Encode(s.p.dies, s.p.serial, s.p.super, s.p.at, front)
		scrawl(whole)
		if want := plainEncode(s.p, s.slots); e != api.OK || !sameLists(got, want) {
			t.Fatalf("Encode(%+v, %+v): %v, want %v", s.p, s.slots, got, want)
		}
	}
}

// Each payload is filled up in turn, its spare room too: the others stay.
func TestP2EncodePayloadsShareNothing(t *testing.T) {
	for _, s := range samples() {
		got, _ := row.Encode(s.p.dies, s.p.serial, s.p.super, s.p.at, s.slots)
		again, _ := row.Encode(s.p.dies, s.p.serial, s.p.super, s.p.at, s.slots)
		want := copied(got)
		for i := range got {
			scribble(got[i])
			for j := range got {
				if j != i && !bytes.Equal(got[j], want[j]) {
					t.Fatalf("Encode(%+v, %+v): payloads %d and %d share memory", s.p, s.slots, i, j)
				}
			}
			scribble(got[i])
		}
		for i := range got {
			scribble(got[i])
		}
		clear(got[:cap(got)])
		if !sameLists(again, want) {
			t.Fatalf("Encode(%+v, %+v): two answers share memory", s.p, s.slots)
		}
		wantPayloads(t, s.p, s.slots, want)
	}
}

func TestP2DecodeWhatWasHandedInStays(t *testing.T) {
	for _, s := range few() {
		for most, lists := range somePages(s) {
			for _, l := range lists {
				front, whole, held := roomyPages(l)
				was, wasHeld := slices.Clone(whole), copied(held)
				got, _ := row.Decode(3, 2, front, most)
				scrawl(got.Slots)
				if !samePages(whole, was) || !sameLists(held, wasHeld) {
					t.Fatalf("Decode(%+v, %d): what was handed in changed: %+v", l, most, whole)
				}
				for i := range whole {
					if len(was[i].B) > 0 && &whole[i].B[0] != &was[i].B[0] {
						t.Fatalf("Decode(%+v, %d): page %d holds other memory", l, most, i)
					}
				}
				agreesDecode(t, 3, 2, front, most)
			}
		}
	}
}

func TestP2DecodeWhatWasHandedInIsNotKept(t *testing.T) {
	for _, s := range few() {
		for most, lists := range somePages(s) {
			for _, l := range lists {
				want, wantErr := plainDecode(3, 2, l, most)
				front, whole, held := roomyPages(l)
				got, e := row.Decode(3, 2, front, most)
				for _, b := range held {
					scribble(b)
				}
				clear(whole)
				if e != wantErr || !sameRow(got, want) {
					t.Fatalf("Decode(%+v, %d) hangs on what was handed in: %+v, %v", l, most, got, e)
				}
			}
		}
	}
}

// One memory may be several pages' at once.
func TestP2DecodePagesThatShareMemory(t *testing.T) {
	b := (&dice{40}).bytes(90)
	was := bytes.Clone(b)
	for n := 6; n <= 8; n++ {
		var l []api.Page
		for i := range n {
			l = append(l, api.Page{State: api.Good, B: b[i : i+48]})
		}
		for most := range 3 {
			wantNoRow(t, 3, 2, l, most, api.ErrBad)
			wantNoRow(t, 3, 2, with(l, badPage, chosen(1<<most-1)...), most, api.ErrBad)
			wantNoRow(t, 3, 2, slices.Repeat(l[:1], n), most, api.ErrBad)
		}
	}
	if !bytes.Equal(b, was) {
		t.Error("what was handed in changed")
	}
}

func TestP2DecodeAnswersAreNewMemory(t *testing.T) {
	for _, s := range samples() {
		one, _ := row.Decode(s.p.super, s.p.at, s.pages, 0)
		two, _ := row.Decode(s.p.super, s.p.at, s.pages, 0)
		scrawl(one.Slots)
		if !sameRow(two, s.row) {
			t.Fatalf("%+v: two answers share memory: %+v", s.p, two)
		}
		wantRow(t, s.p.super, s.p.at, s.pages, 0, s.row)
	}
}

func TestP3TheSameCallsAnswerTheSame(t *testing.T) {
	for _, s := range few() {
		for range 3 {
			wantPayloads(t, s.p, s.slots, plainEncode(s.p, s.slots))
			wantNoPayloads(t, place{5, 1, 1, 1}, s.slots)
			for most, lists := range somePages(s) {
				for _, l := range lists {
					agreesDecode(t, 3, 2, l, most)
				}
			}
		}
	}
}

// P1: numbers and lists of any kind end by an answer or an error.
func TestP1AnythingEnds(t *testing.T) {
	d := &dice{41}
	numbers := append([]int{-1, 0, 1, 2, 3, 5, 6, 7, 8, 9, 255, 256, math.MaxInt32}, far...)
	for range 3000 {
		l := make([]api.Entry, d.of(10))
		for i := range l {
			l[i] = api.Entry{Kind: d.one(numbers), Lba: d.one(numbers), Seq: d.one(numbers)}
		}
		agreesEncode(t, place{d.one(numbers), d.one(numbers), d.one(numbers), d.one(numbers)}, l)
		p := make([]api.Page, d.of(12))
		for i := range p {
			p[i] = api.Page{State: d.one(numbers), B: d.bytes(d.of(100))}
		}
		agreesDecode(t, d.one(numbers), d.one(numbers), p, d.one(numbers))
	}
}
