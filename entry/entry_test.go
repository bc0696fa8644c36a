package entry_test

import (
	"bytes"
	"math"
	"testing"

	"ramekin/api"
	"ramekin/entry"
)

// updates are the kinds of which Lba and Seq tell something; fillers are the others.
var (
	updates = []int{api.KData, api.KTrim}
	fillers = []int{api.KNone, api.KSeal}
)

func TestP1001CheckEachKind(t *testing.T) {
	for _, kind := range fillers {
		wantCheck(t, api.Entry{Kind: kind}, api.OK)
	}
	for _, kind := range updates {
		wantCheck(t, api.Entry{Kind: kind, Seq: 1}, api.OK)
	}
	far := []int{-1, 4, -2, -3, -4, 5, 6, 7, 8, 255, 256, 257, 258, 259, -256, -255, 1 << 32, 1<<32 + 1, 1<<32 + 3, -1 << 32, math.MaxInt64, math.MinInt64, math.MinInt64 + 1}
	for _, kind := range far {
		wantCheck(t, api.Entry{Kind: kind}, api.ErrArg)
		wantCheck(t, api.Entry{Kind: kind, Seq: 1}, api.ErrArg)
		wantCheck(t, api.Entry{Kind: kind, Lba: 3, Seq: 1, Data: [16]byte{1}}, api.ErrArg)
	}
}

func TestP1001CheckLbaOfUpdates(t *testing.T) {
	for _, kind := range updates {
		for _, lba := range []int{0, 1, 2, 255, 256, 1<<16 - 1, 1 << 16} {
			wantCheck(t, api.Entry{Kind: kind, Lba: lba, Seq: 7}, api.OK)
		}
		for _, lba := range []int{-1, 1<<16 + 1, -2, -1 << 16, 1 << 17, 1 << 32, 1<<32 + 1, 1 << 40, math.MaxInt64, math.MinInt64} {
			wantCheck(t, api.Entry{Kind: kind, Lba: lba, Seq: 7}, api.ErrArg)
		}
	}
}

func TestP1001CheckSeqOfUpdates(t *testing.T) {
	for _, kind := range updates {
		for _, seq := range []int{1, 2, 1<<16 + 1, 1 << 32, 1<<40 - 1, 1 << 40} {
			wantCheck(t, api.Entry{Kind: kind, Lba: 7, Seq: seq}, api.OK)
		}
		for _, seq := range []int{0, -1, 1<<40 + 1, -2, -1 << 32, -1 << 40, 1 << 41, 1 << 56, math.MaxInt64, math.MinInt64, math.MinInt64 + 1} {
			wantCheck(t, api.Entry{Kind: kind, Lba: 7, Seq: seq}, api.ErrArg)
		}
		wantCheck(t, api.Entry{Kind: kind}, api.ErrArg)
		wantCheck(t, api.Entry{Kind: kind, Lba: 1 << 16, Seq: 1 << 40}, api.OK)
		wantCheck(t, api.Entry{Kind: kind, Lba: 1<<16 + 1, Seq: 1<<40 + 1}, api.ErrArg)
		wantCheck(t, api.Entry{Kind: kind, Lba: -1}, api.ErrArg)
	}
}

func TestP1001CheckNumbersOfOthers(t *testing.T) {
	for _, kind := range fillers {
		for _, v := range []int{1, -1, 2, 256, 1 << 16, 1 << 32, 1 << 40, math.MaxInt64, math.MinInt64} {
			wantCheck(t, api.Entry{Kind: kind, Lba: v}, api.ErrArg)
			wantCheck(t, api.Entry{Kind: kind, Seq: v}, api.ErrArg)
			wantCheck(t, api.Entry{Kind: kind, Lba: v, Seq: v}, api.ErrArg)
			wantCheck(t, api.Entry{Kind: kind, Lba: v, Seq: -v}, api.ErrArg)
		}
	}
}

func TestP1001CheckDataOfEachKind(t *testing.T) {
	for _, data := range someData() {
		want := api.ErrArg
		if data == [16]byte{} {
			want = api.OK
		}
		wantCheck(t, api.Entry{Kind: api.KData, Lba: 5, Seq: 6, Data: data}, api.OK)
		wantCheck(t, api.Entry{Kind: api.KTrim, Lba: 5, Seq: 6, Data: data}, want)
		wantCheck(t, api.Entry{Kind: api.KNone, Data: data}, want)
		wantCheck(t, api.Entry{Kind: api.KSeal, Data: data}, want)
	}
	for i := range 16 {
		for v := 1; v < 256; v++ {
			data := lone(i, byte(v))
			wantCheck(t, api.Entry{Kind: api.KData, Seq: 1, Data: data}, api.OK)
			wantCheck(t, api.Entry{Kind: api.KTrim, Seq: 1, Data: data}, api.ErrArg)
			wantCheck(t, api.Entry{Data: data}, api.ErrArg)
			wantCheck(t, api.Entry{Kind: api.KSeal, Data: data}, api.ErrArg)
		}
	}
}

func TestP1001CheckOfAllEdges(t *testing.T) {
	for _, kind := range numbers {
		for _, lba := range numbers {
			for _, seq := range numbers {
				for _, data := range [][16]byte{{}, {0: 1}, {15: 128}} {
					e := api.Entry{Kind: kind, Lba: lba, Seq: seq, Data: data}
					wantCheck(t, e, plainCheck(e))
				}
			}
		}
	}
}

func TestP1001BytesByHand(t *testing.T) {
	for _, c := range []struct {
		h    api.Head
		e    api.Entry
		want string
	}{
		{api.Head{}, api.Entry{}, "" +
			"\x00\x00\x00\x00\x00\x00\x00\x00" + "\x00\x00\x00\x00" + "\x00\x00\x00\x00\x00\x00\x00\x00" + "\x00\x00\x00\x00\x00\x00\x00\x00" +
			"\x00\x00\x00\x00\x00\x00\x00\x00\x00\x00\x00\x00\x00\x00\x00\x00" + "\x00\x00\x00\x00"},
		{api.Head{Serial: 0x0807060504030201, Super: 9, Row: 10, Die: 11}, api.Entry{Kind: 12, Lba: 0x14131211100F0E0D, Seq: 0x1C1B1A1918171615, Data: [16]byte{29, 30, 31, 32, 33, 34, 35, 36, 37, 38, 39, 40, 41, 42, 43, 44}}, "" +
			"\x01\x02\x03\x04\x05\x06\x07\x08" + "\x09\x0A\x0B\x0C" + "\x0D\x0E\x0F\x10\x11\x12\x13\x14" + "\x15\x16\x17\x18\x19\x1A\x1B\x1C" +
			"\x1D\x1E\x1F\x20\x21\x22\x23\x24\x25\x26\x27\x28\x29\x2A\x2B\x2C" + "\x00\x00\x00\x00"},
		{api.Head{Serial: -1, Super: -2, Row: 256, Die: 511}, api.Entry{Kind: -3, Lba: -256, Seq: math.MinInt64, Data: [16]byte{0: 255, 15: 254}}, "" +
			"\xFF\xFF\xFF\xFF\xFF\xFF\xFF\xFF" + "\xFE\x00\xFF\xFD" + "\x00\xFF\xFF\xFF\xFF\xFF\xFF\xFF" + "\x00\x00\x00\x00\x00\x00\x00\x80" +
			"\xFF\x00\x00\x00\x00\x00\x00\x00\x00\x00\x00\x00\x00\x00\x00\xFE" + "\x00\x00\x00\x00"},
		{api.Head{Serial: 1 << 40, Super: 255, Row: math.MinInt64 + 7, Die: math.MaxInt64 - 7}, api.Entry{Kind: api.KTrim + 1<<32, Lba: 1 << 16, Seq: math.MaxInt64}, "" +
			"\x00\x00\x00\x00\x00\x01\x00\x00" + "\xFF\x07\xF8\x02" + "\x00\x00\x01\x00\x00\x00\x00\x00" + "\xFF\xFF\xFF\xFF\xFF\xFF\xFF\x7F" +
			"\x00\x00\x00\x00\x00\x00\x00\x00\x00\x00\x00\x00\x00\x00\x00\x00" + "\x00\x00\x00\x00"},
	} {
		wantBytes(t, c.h, c.e, []byte(c.want))
	}
}

func TestP1001BytesEachNumberAtItsPlace(t *testing.T) {
	for _, c := range []struct {
		from, size int
		of         func(v int) (api.Head, api.Entry)
	}{
		{0, 8, func(v int) (api.Head, api.Entry) { return api.Head{Serial: v}, api.Entry{} }},
		{8, 1, func(v int) (api.Head, api.Entry) { return api.Head{Super: v}, api.Entry{} }},
		{9, 1, func(v int) (api.Head, api.Entry) { return api.Head{Row: v}, api.Entry{} }},
		{10, 1, func(v int) (api.Head, api.Entry) { return api.Head{Die: v}, api.Entry{} }},
		{11, 1, func(v int) (api.Head, api.Entry) { return api.Head{}, api.Entry{Kind: v} }},
		{12, 8, func(v int) (api.Head, api.Entry) { return api.Head{}, api.Entry{Lba: v} }},
		{20, 8, func(v int) (api.Head, api.Entry) { return api.Head{}, api.Entry{Seq: v} }},
	} {
		for _, v := range numbers {
			want := make([]byte, 48)
			for k := range c.size {
				want[c.from+k] = byte(v >> (8 * k))
			}
			h, e := c.of(v)
			wantBytes(t, h, e, want)
		}
	}
	for i := range 16 {
		for v := range 256 {
			want := make([]byte, 48)
			want[28+i] = byte(v)
			wantBytes(t, api.Head{}, api.Entry{Data: lone(i, byte(v))}, want)
		}
	}
}

func TestP1001BytesOfAnySlot(t *testing.T) {
	d := &dice{1}
	for range 20000 {
		h, e := d.slot()
		wantBytes(t, h, e, plainBytes(h, e))
		h, e = d.rightSlot()
		wantBytes(t, h, e, plainBytes(h, e))
	}
}

func TestP1001ParseByHand(t *testing.T) {
	whole := []byte("" +
		"\x01\x02\x03\x04\x05\x00\x00\x00" + "\x09\x0A\x0B\x01" + "\x0D\x0E\x00\x00\x00\x00\x00\x00" + "\x15\x16\x17\x18\x19\x00\x00\x00" +
		"\x1D\x1E\x1F\x20\x21\x22\x23\x24\x25\x26\x27\x28\x29\x2A\x2B\x2C" + "\x00\x00\x00\x00")
	h := api.Head{Serial: 0x0504030201, Super: 9, Row: 10, Die: 11}
	e := api.Entry{Kind: api.KData, Lba: 0x0E0D, Seq: 0x1918171615, Data: [16]byte{29, 30, 31, 32, 33, 34, 35, 36, 37, 38, 39, 40, 41, 42, 43, 44}}
	wantSlot(t, whole, h, e)
	wantSlot(t, append([]byte{1}, make([]byte, 47)...), api.Head{Serial: 1}, api.Entry{})
	wantNoSlot(t, make([]byte, 48), api.ErrBad)
	wantNoSlot(t, bytes.Repeat([]byte{255}, 48), api.ErrBad)
}

// What stands in the bytes does not tell which of the two errors it is, nor that it is ErrBad.
func TestP1001ParseOfOtherLengths(t *testing.T) {
	d := &dice{2}
	lengths := []int{64, 96, 97, 255, 256, 304, 1 << 16, 1<<16 + 48, 1 << 20}
	for count := range 60 {
		lengths = append(lengths, count)
	}
	for _, count := range lengths {
		right := append(plainBytes(api.Head{Serial: 9}, api.Entry{Kind: api.KData, Lba: 3, Seq: 5, Data: d.data()}), make([]byte, count)...)[:count]
		for _, b := range [][]byte{right, make([]byte, count), bytes.Repeat([]byte{255}, count), d.bytes(count)} {
			switch {
			case count < 48:
				wantNoSlot(t, b, api.ErrCut)
			case count > 48:
				wantNoSlot(t, b, api.ErrMore)
			default:
				agrees(t, b)
			}
		}
	}
	wantNoSlot(t, nil, api.ErrCut)
	wantNoSlot(t, []byte{}, api.ErrCut)
}

// P6: that bytes lack, or are left, comes ahead of all that they say.
func TestP1001ParseFirstError(t *testing.T) {
	for _, s := range rightSlots() {
		right := entry.Bytes(s.h, s.e)
		bad := [][]byte{with(right, 44, 1), with(right, 47, 255), with(right, 7, 128), with(right, 11, 4), with(make([]byte, 48), 20, 1)}
		for _, b := range append(bad, right) {
			wantNoSlot(t, append(bytes.Clone(b), 0), api.ErrMore)
			wantNoSlot(t, append(bytes.Clone(b), b...), api.ErrMore)
			for _, count := range []int{0, 1, 8, 12, 20, 28, 43, 44, 45, 46, 47} {
				wantNoSlot(t, b[:count], api.ErrCut)
			}
		}
		for _, b := range bad {
			wantNoSlot(t, b, api.ErrBad)
			wantNoSlot(t, with(with(b, 44, 7), 6, 1), api.ErrBad)
		}
	}
}

func with(b []byte, at int, v byte) []byte {
	other := bytes.Clone(b)
	other[at] = v
	return other
}

func TestP1001ParseTheFourNoughts(t *testing.T) {
	for _, s := range rightSlots() {
		right := entry.Bytes(s.h, s.e)
		wantSlot(t, right, s.h, s.e)
		for at := 44; at < 48; at++ {
			for _, v := range []byte{1, 2, 128, 255} {
				wantNoSlot(t, with(right, at, v), api.ErrBad)
			}
		}
	}
	right := entry.Bytes(api.Head{Serial: 3}, api.Entry{})
	for at := 44; at < 48; at++ {
		for v := 1; v < 256; v++ {
			wantNoSlot(t, with(right, at, byte(v)), api.ErrBad)
		}
	}
	// Not their sum, nor their bits together: all four count.
	wantNoSlot(t, with(with(right, 44, 1), 45, 255), api.ErrBad)
	wantNoSlot(t, with(with(right, 46, 7), 47, 7), api.ErrBad)
	wantNoSlot(t, append(bytes.Clone(right[:44]), 255, 255, 255, 255), api.ErrBad)
}

func TestP1001ParseSerial(t *testing.T) {
	for _, s := range rightSlots() {
		h := s.h
		for _, h.Serial = range []int{1, 2, 255, 256, 1 << 16, 1 << 32, 1<<40 - 1, 1 << 40} {
			wantSlot(t, entry.Bytes(h, s.e), h, s.e)
		}
		for _, h.Serial = range []int{0, -1, 1<<40 + 1, 1<<40 + 2, 1 << 41, 1 << 48, 1<<48 + 1, 1 << 56, 1<<56 + 1, -2, -1 << 40, 1 - 1<<40, math.MaxInt64, math.MinInt64, math.MinInt64 + 1} {
			wantNoSlot(t, entry.Bytes(h, s.e), api.ErrBad)
		}
	}
}

func TestP1001ParseOfEachErrorOfCheck(t *testing.T) {
	h := api.Head{Serial: 77, Super: 1, Row: 2, Die: 3}
	for _, e := range []api.Entry{
		{Kind: 4}, {Kind: 5}, {Kind: 127}, {Kind: 128}, {Kind: 255}, {Kind: -1}, {Kind: 4, Lba: 1, Seq: 1},
		{Kind: api.KData}, {Kind: api.KTrim}, {Kind: api.KData, Seq: -1}, {Kind: api.KTrim, Seq: -1},
		{Kind: api.KData, Seq: 1<<40 + 1}, {Kind: api.KTrim, Seq: 1<<40 + 1}, {Kind: api.KData, Seq: math.MinInt64 + 1}, {Kind: api.KTrim, Seq: math.MaxInt64},
		{Kind: api.KData, Lba: -1, Seq: 1}, {Kind: api.KTrim, Lba: -1, Seq: 1}, {Kind: api.KData, Lba: 1<<16 + 1, Seq: 1}, {Kind: api.KTrim, Lba: 1<<16 + 1, Seq: 1},
		{Kind: api.KData, Lba: math.MinInt64, Seq: 1}, {Kind: api.KTrim, Lba: 1 << 56, Seq: 1},
		{Lba: 1}, {Seq: 1}, {Kind: api.KSeal, Lba: 1}, {Kind: api.KSeal, Seq: 1}, {Lba: -1}, {Seq: math.MinInt64}, {Kind: api.KSeal, Lba: 1 << 56}, {Kind: api.KSeal, Seq: 1 << 56},
		{Data: [16]byte{0: 1}}, {Data: [16]byte{15: 1}}, {Kind: api.KTrim, Seq: 1, Data: [16]byte{0: 1}}, {Kind: api.KTrim, Seq: 1, Data: [16]byte{15: 1}}, {Kind: api.KSeal, Data: [16]byte{0: 128}}, {Kind: api.KSeal, Data: [16]byte{15: 128}},
	} {
		wantCheck(t, e, api.ErrArg)
		wantNoSlot(t, entry.Bytes(h, e), api.ErrBad)
	}
}

// A kind that is none may look like one when it is written: what stands in the bytes counts.
func TestP1001ParseOfNumbersBeyondAByte(t *testing.T) {
	for _, v := range []int{0, 3, 200, 255} {
		for _, beyond := range []int{256, -256, 1 << 32, math.MinInt64, 255 << 40} {
			h := api.Head{Serial: 5, Super: v, Row: 255 - v, Die: v}
			far := api.Head{Serial: 5, Super: v + beyond, Row: 255 - v + beyond, Die: v + beyond}
			wantSlot(t, entry.Bytes(far, api.Entry{Kind: api.KSeal + beyond}), h, api.Entry{Kind: api.KSeal})
		}
	}
}

func TestP1001ParseOfAnyBytes(t *testing.T) {
	d := &dice{3}
	seen := map[api.Errno]int{}
	for range 20000 {
		agrees(t, d.bytes(48))
		h, e := d.slot()
		agrees(t, plainBytes(h, e))
		h, e = d.rightSlot()
		b := plainBytes(h, e)
		seen[agrees(t, b)]++
		b[d.of(48)] ^= 1 << d.of(8)
		seen[agrees(t, b)]++
		seen[agrees(t, append(b, d.bytes(40)...)[:d.of(88)])]++
	}
	for _, e := range []api.Errno{api.OK, api.ErrCut, api.ErrMore, api.ErrBad} {
		if seen[e] < 1000 {
			t.Errorf("only %d of %v", seen[e], e)
		}
	}
}

func TestP1002ReadAsWritten(t *testing.T) {
	for _, s := range rightSlots() {
		wantSlot(t, entry.Bytes(s.h, s.e), s.h, s.e)
	}
	d := &dice{4}
	for range 20000 {
		h, e := d.rightSlot()
		wantCheck(t, e, api.OK)
		wantSlot(t, entry.Bytes(h, e), h, e)
	}
}

func TestP1002EachNumberOfAHead(t *testing.T) {
	e := api.Entry{Kind: api.KData, Lba: 1, Seq: 2, Data: [16]byte{3}}
	for v := range 256 {
		for _, other := range []int{0, 255} {
			for _, h := range []api.Head{headOf(v, other, other), headOf(other, v, other), headOf(other, other, v), headOf(v, 255-v, v^85)} {
				wantSlot(t, entry.Bytes(h, e), h, e)
			}
		}
	}
}

func headOf(super, row, die int) api.Head {
	return api.Head{Serial: 7, Super: super, Row: row, Die: die}
}

func TestP1002EachSectorAndAllData(t *testing.T) {
	h := api.Head{Serial: 8, Super: 0, Row: 255, Die: 0}
	for lba := range 1<<16 + 1 {
		for _, kind := range updates {
			e := api.Entry{Kind: kind, Lba: lba, Seq: 1<<40 - lba}
			wantSlot(t, entry.Bytes(h, e), h, e)
		}
	}
	for _, data := range someData() {
		e := api.Entry{Kind: api.KData, Seq: 1, Data: data}
		wantSlot(t, entry.Bytes(h, e), h, e)
	}
}

// The other way too: of two that are not the same the bytes differ, and what was read is written as it was.
func TestP1002WrittenAsRead(t *testing.T) {
	d := &dice{5}
	read := 0
	for range 20000 {
		h, e := d.rightSlot()
		b := entry.Bytes(h, e)
		b[d.of(44)] ^= 1 << d.of(8)
		if h, e, err := entry.Parse(b); err == api.OK {
			read++
			wantBytes(t, h, e, b)
		}
	}
	if read < 2000 {
		t.Errorf("only %d of them could be read", read)
	}
}

func TestExample1(t *testing.T) {
	if h, e, err := entry.Parse(nil); h != (api.Head{}) || e != (api.Entry{}) || err != api.ErrCut {
		t.Errorf("Parse of nothing: %+v, %+v, %v", h, e, err)
	}
}
