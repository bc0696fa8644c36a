package row_test

import (
	"bytes"
	"slices"
	"testing"

	"ramekin/api"
	"ramekin/entry"
	"ramekin/row"
	"ramekin/rs"
)

// Each payload is the serial number, then superblock, row, die and kind, the sector, the update, its data, four noughts.
func TestP1101EncodeByHand(t *testing.T) {
	const none8, none16, end = "\x00\x00\x00\x00\x00\x00\x00\x00", "\x00\x00\x00\x00\x00\x00\x00\x00\x00\x00\x00\x00\x00\x00\x00\x00", "\x00\x00\x00\x00"
	const nine, x = "\x09\x00\x00\x00\x00\x00\x00\x00", "x\x00\x00\x00\x00\x00\x00\x00\x00\x00\x00\x00\x00\x00\x00\x00"
	l := []api.Entry{{Kind: api.KData, Lba: 1, Seq: 5, Data: [16]byte{'x'}}, {Kind: api.KTrim, Lba: 2, Seq: 6}}
	wantPayloads(t, place{6, 9, 3, 2}, l, [][]byte{
		[]byte(nine + "\x03\x02\x00\x01" + "\x01\x00\x00\x00\x00\x00\x00\x00" + "\x05\x00\x00\x00\x00\x00\x00\x00" + x + end),
		[]byte(nine + "\x03\x02\x01\x02" + "\x02\x00\x00\x00\x00\x00\x00\x00" + "\x06\x00\x00\x00\x00\x00\x00\x00" + none16 + end),
		[]byte(nine + "\x03\x02\x02\x00" + none8 + none8 + none16 + end),
		[]byte(nine + "\x03\x02\x03\x00" + none8 + none8 + none16 + end),
		// The sum of the four, and that of 1, 2, 4, 8 times them.
		[]byte(none8 + "\x00\x00\x00\x03" + "\x03\x00\x00\x00\x00\x00\x00\x00" + "\x03\x00\x00\x00\x00\x00\x00\x00" + x + end),
		[]byte("\x77\x00\x00\x00\x00\x00\x00\x00" + "\x11\x1E\x12\x05" + "\x05\x00\x00\x00\x00\x00\x00\x00" + "\x09\x00\x00\x00\x00\x00\x00\x00" + x + end),
	})
}

// Each payload is held alone against what entry.Bytes and rs.Parity answer.
func TestP1101EncodeDieByDie(t *testing.T) {
	for _, s := range samples() {
		got, e := row.Encode(s.p.dies, s.p.serial, s.p.super, s.p.at, s.slots)
		if e != api.OK || len(got) != s.p.dies {
			t.Fatalf("Encode(%+v, %+v): %d payloads, %v", s.p, s.slots, len(got), e)
		}
		n := s.p.dies - 2
		for i := range n {
			slot := api.Entry{Kind: api.KNone}
			if i < len(s.slots) {
				slot = s.slots[i]
			}
			want := entry.Bytes(api.Head{Serial: s.p.serial, Super: s.p.super, Row: s.p.at, Die: i}, slot)
			if !bytes.Equal(got[i], want) {
				t.Errorf("Encode(%+v, %+v): on die %d %v, want %v", s.p, s.slots, i, got[i], want)
			}
		}
		p, q := rs.Parity(got[:n])
		if !bytes.Equal(got[n], p) || !bytes.Equal(got[n+1], q) || !rs.Check(got) {
			t.Errorf("Encode(%+v, %+v): parities %v, %v, want %v, %v", s.p, s.slots, got[n], got[n+1], p, q)
		}
	}
}

func TestP1101EncodeDies(t *testing.T) {
	for _, l := range [][]api.Entry{nil, edgeEntries[:1], edgeEntries[:4]} {
		for dies := 6; dies <= 8; dies++ {
			wantPayloads(t, place{dies, 1, 0, 0}, l, plainEncode(place{dies, 1, 0, 0}, l))
		}
		for _, dies := range append([]int{5, 9, 0, 1, 2, 3, 4, 10, 14, 15, 16, -1}, far...) {
			wantNoPayloads(t, place{dies, 1, 0, 0}, l)
		}
	}
}

func TestP1101EncodeSerial(t *testing.T) {
	for dies := 6; dies <= 8; dies++ {
		for _, serial := range []int{1, 2, 255, 256, 1 << 16, 1 << 32, 1<<32 + 1, 1<<40 - 1, 1 << 40} {
			p := place{dies, serial, 7, 8}
			wantPayloads(t, p, edgeEntries[:4], plainEncode(p, edgeEntries[:4]))
		}
		for _, serial := range []int{0, 1<<40 + 1, -1, -2, 1<<40 + 2, 1 << 41, 1<<48 + 1, 1<<56 + 1, -1 << 40, 1<<63 - 1, -1 << 63, -1<<63 + 1} {
			wantNoPayloads(t, place{dies, serial, 7, 8}, edgeEntries[:4])
		}
	}
}

// Each of the two by itself.
func TestP1101EncodeSuperAndAt(t *testing.T) {
	for dies := 6; dies <= 8; dies++ {
		for v := range 256 {
			for _, p := range []place{{dies, 5, v, 9}, {dies, 5, 9, v}} {
				wantPayloads(t, p, edgeEntries[3:5], plainEncode(p, edgeEntries[3:5]))
			}
		}
		for _, v := range append([]int{-1, 256, 257, 511, 512}, far...) {
			wantNoPayloads(t, place{dies, 5, v, 9}, edgeEntries[3:5])
			wantNoPayloads(t, place{dies, 5, 9, v}, edgeEntries[3:5])
		}
	}
}

func TestP1101EncodeHowManySlots(t *testing.T) {
	d := &dice{1}
	for dies := 6; dies <= 8; dies++ {
		p := place{dies, 12, 1, 1}
		wantPayloads(t, p, nil, plainEncode(p, nil))
		wantPayloads(t, p, []api.Entry{}, plainEncode(p, nil))
		for count := range dies - 1 {
			l := d.entries(count)
			wantPayloads(t, p, l, plainEncode(p, l))
			// Where there is none it is a KNone, as if it had been handed in.
			wantPayloads(t, p, padded(dies, l), plainEncode(p, l))
		}
		for _, count := range []int{dies - 1, dies, dies + 1, 2 * dies, 256 + dies - 2, 1 << 16} {
			wantNoPayloads(t, p, make([]api.Entry, count))
			wantNoPayloads(t, p, d.entries(count))
		}
	}
}

func TestP1101EncodeSlotsThatMayNotBe(t *testing.T) {
	d := &dice{2}
	for dies := 6; dies <= 8; dies++ {
		p := place{dies, 12, 1, 1}
		for _, no := range refusedEntries {
			for count := 1; count <= dies-2; count++ {
				for i := range count {
					l := d.entries(count)
					l[i] = no
					wantNoPayloads(t, p, l)
				}
			}
			wantNoPayloads(t, p, slices.Repeat([]api.Entry{no}, dies-2))
		}
		for _, e := range edgeEntries {
			for i := range dies - 2 {
				l := d.entries(dies - 2)
				l[i] = e
				wantPayloads(t, p, l, plainEncode(p, l))
			}
		}
	}
}

// What is wrong in one way may be right in all others, and wrong in them as well.
func TestP1101EncodeOfAllEdges(t *testing.T) {
	lists := [][]api.Entry{nil, edgeEntries[:4], edgeEntries[:5], edgeEntries[:6], edgeEntries[:7], {{}, {Kind: 9}}, {{Lba: 1}}}
	for _, dies := range []int{5, 6, 7, 8, 9} {
		for _, serial := range []int{0, 1, 1 << 40, 1<<40 + 1} {
			for _, super := range []int{-1, 0, 255, 256} {
				for _, at := range []int{-1, 0, 255, 256} {
					for _, l := range lists {
						agreesEncode(t, place{dies, serial, super, at}, l)
					}
				}
			}
		}
	}
}

func TestP1101EncodeOfAny(t *testing.T) {
	d := &dice{3}
	numbers := append([]int{-1, 0, 1, 2, 5, 6, 7, 8, 9, 100, 254, 255, 256}, far...)
	for range 3000 {
		p := d.place()
		l := d.entries(d.of(p.dies - 1))
		wantPayloads(t, p, l, plainEncode(p, l))
		for range d.of(3) {
			switch d.of(5) {
			case 0:
				p.dies = d.one(numbers)
			case 1:
				p.serial = d.one(numbers)
			case 2:
				p.super = d.one(numbers)
			case 3:
				p.at = d.one(numbers)
			case 4:
				l = append(l, refusedEntries[d.of(len(refusedEntries))], d.entry())
			}
		}
		agreesEncode(t, p, l)
	}
}
