package entry_test

import (
	"bytes"
	"encoding/binary"
	"math"
	"testing"

	"ramekin/api"
	"ramekin/entry"
)

// dice throw the same numbers in each run.
type dice struct{ n uint64 }

func (d *dice) of(k int) int {
	d.n = d.n*6364136223846793005 + 1442695040888963407
	return int(d.n>>33) % k
}

func (d *dice) bytes(count int) []byte {
	b := make([]byte, count)
	for i := range b {
		b[i] = byte(d.of(256))
	}
	return b
}

// wide is any number of 64 bits, great and small ones alike.
func (d *dice) wide() int {
	return int(binary.LittleEndian.Uint64(d.bytes(8))) >> d.of(64)
}

func (d *dice) one(l []int) int { return l[d.of(len(l))] }

func (d *dice) data() (data [16]byte) {
	copy(data[:], d.bytes(16))
	return data
}

// slot is any at all, of which most may not be.
func (d *dice) slot() (api.Head, api.Entry) {
	h := api.Head{Serial: d.one(numbers), Super: d.one(numbers), Row: d.wide(), Die: d.wide()}
	return h, api.Entry{Kind: d.one(numbers), Lba: d.wide(), Seq: d.one(numbers), Data: d.data()}
}

// rightSlot is any that may be.
func (d *dice) rightSlot() (api.Head, api.Entry) {
	h := api.Head{Serial: d.most(1 << 40), Super: d.of(256), Row: d.of(256), Die: d.of(256)}
	e := api.Entry{Kind: d.of(4)}
	if e.Kind == api.KData || e.Kind == api.KTrim {
		e.Lba, e.Seq = d.of(1<<16+1), d.most(1<<40)
	}
	if e.Kind == api.KData {
		e.Data = d.data()
	}
	return h, e
}

// most is 1 to this, the ends more often than others.
func (d *dice) most(last int) int {
	switch d.of(4) {
	case 0:
		return 1
	case 1:
		return last
	}
	return 1 + int(uint64(d.wide())%uint64(last))
}

// numbers are those at all bounds that the document names, the next ones on both sides, and very great and small ones.
var numbers = []int{
	0, 1, 2, 3, 4, 5, -1, -2, -3, -4, 127, 128, 254, 255, 256, 257, 258, 259, 260, -255, -256,
	1<<16 - 1, 1 << 16, 1<<16 + 1, 1<<17 + 3, -1 << 16, 1<<31 - 1, 1 << 31, 1<<32 - 1, 1 << 32, 1<<32 + 1, 1<<32 + 2, -1 << 32,
	1<<40 - 1, 1 << 40, 1<<40 + 1, 1 << 41, -1 << 40, 1<<40 + 1<<16, 1<<56 + 1, math.MaxInt64 - 1, math.MaxInt64, math.MinInt64, math.MinInt64 + 1, math.MinInt64 + 255,
}

// someData are noughts, and each of the 16 bytes by its lowest bit or its highest one, then many.
func someData() [][16]byte {
	all := [][16]byte{{}, [16]byte(bytes.Repeat([]byte{255}, 16)), {1, 2, 3, 4, 5, 6, 7, 8, 9, 10, 11, 12, 13, 14, 15, 16}}
	for i := range 16 {
		all = append(all, lone(i, 1), lone(i, 128))
	}
	return all
}

// lone is one byte among noughts.
func lone(at int, v byte) (data [16]byte) {
	data[at] = v
	return data
}

// plainCheck is the document's, sentence by sentence.
func plainCheck(e api.Entry) api.Errno {
	switch e.Kind {
	case 1, 2:
		if e.Lba < 0 || e.Lba > 65536 || e.Seq < 1 || e.Seq > 1099511627776 {
			return api.ErrArg
		}
	case 0, 3:
		if e.Lba != 0 || e.Seq != 0 {
			return api.ErrArg
		}
	default:
		return api.ErrArg
	}
	if e.Kind == 1 {
		return api.OK
	}
	for _, v := range e.Data {
		if v != 0 {
			return api.ErrArg
		}
	}
	return api.OK
}

// plainBytes puts each number at its place, by the library.
func plainBytes(h api.Head, e api.Entry) []byte {
	b := make([]byte, 48)
	binary.LittleEndian.PutUint64(b, uint64(h.Serial))
	b[8], b[9], b[10], b[11] = byte(h.Super), byte(h.Row), byte(h.Die), byte(e.Kind)
	binary.LittleEndian.PutUint64(b[12:], uint64(e.Lba))
	binary.LittleEndian.PutUint64(b[20:], uint64(e.Seq))
	copy(b[28:44], e.Data[:])
	return b
}

// plainParse takes each number from its place, and asks what the document asks, in its order.
func plainParse(b []byte) (api.Head, api.Entry, api.Errno) {
	if len(b) < 48 {
		return api.Head{}, api.Entry{}, api.ErrCut
	}
	if len(b) > 48 {
		return api.Head{}, api.Entry{}, api.ErrMore
	}
	h := api.Head{Serial: int(binary.LittleEndian.Uint64(b)), Super: int(b[8]), Row: int(b[9]), Die: int(b[10])}
	e := api.Entry{Kind: int(b[11]), Lba: int(binary.LittleEndian.Uint64(b[12:])), Seq: int(binary.LittleEndian.Uint64(b[20:])), Data: [16]byte(b[28:44])}
	if binary.LittleEndian.Uint32(b[44:]) != 0 || h.Serial < 1 || h.Serial > 1099511627776 || plainCheck(e) != api.OK {
		return api.Head{}, api.Entry{}, api.ErrBad
	}
	return h, e, api.OK
}

func wantCheck(t *testing.T, e api.Entry, want api.Errno) {
	t.Helper()
	if got := entry.Check(e); got != want {
		t.Fatalf("Check(%+v): %v, want %v", e, got, want)
	}
}

func wantBytes(t *testing.T, h api.Head, e api.Entry, want []byte) {
	t.Helper()
	if got := entry.Bytes(h, e); !bytes.Equal(got, want) {
		t.Fatalf("Bytes(%+v, %+v): %v, want %v", h, e, got, want)
	}
}

func wantSlot(t *testing.T, b []byte, h api.Head, e api.Entry) {
	t.Helper()
	wantParse(t, b, h, e, api.OK)
}

// wantNoSlot asks for the error, and for zero values beside it.
func wantNoSlot(t *testing.T, b []byte, want api.Errno) {
	t.Helper()
	wantParse(t, b, api.Head{}, api.Entry{}, want)
}

func wantParse(t *testing.T, b []byte, h api.Head, e api.Entry, want api.Errno) {
	t.Helper()
	if x, y, err := entry.Parse(b); x != h || y != e || err != want {
		t.Fatalf("Parse(%v): %+v, %+v, %v, want %+v, %+v, %v", b, x, y, err, h, e, want)
	}
}

// agrees holds Parse against plainParse, and tells the error.
func agrees(t *testing.T, b []byte) api.Errno {
	t.Helper()
	h, e, err := plainParse(b)
	wantParse(t, b, h, e, err)
	return err
}

// rightSlots are one of each kind, with its numbers at each of their bounds.
func rightSlots() []slot {
	none, full := [16]byte{}, [16]byte(bytes.Repeat([]byte{255}, 16))
	var all []slot
	for _, h := range []api.Head{{Serial: 1}, {Serial: 1 << 40, Super: 255, Row: 255, Die: 255}, {Serial: 0x0605040302, Super: 1, Row: 2, Die: 3}} {
		all = append(all, slot{h, api.Entry{}}, slot{h, api.Entry{Kind: api.KSeal}})
		for _, lba := range []int{0, 1, 300, 1 << 16} {
			for _, seq := range []int{1, 2, 1<<40 - 1, 1 << 40} {
				all = append(all, slot{h, api.Entry{Kind: api.KTrim, Lba: lba, Seq: seq}})
				for _, data := range [][16]byte{none, full, {0: 1}, {15: 1}} {
					all = append(all, slot{h, api.Entry{Kind: api.KData, Lba: lba, Seq: seq, Data: data}})
				}
			}
		}
	}
	return all
}

type slot struct {
	h api.Head
	e api.Entry
}
