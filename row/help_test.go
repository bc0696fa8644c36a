package row_test

import (
	"bytes"
	"math"
	"slices"
	"testing"

	"ramekin/api"
	"ramekin/entry"
	"ramekin/row"
	"ramekin/rs"
)

// dice throw the same numbers in each run.
type dice struct{ n uint64 }

func (d *dice) of(k int) int {
	d.n = d.n*6364136223846793005 + 1442695040888963407
	return int(d.n>>33) % k
}

func (d *dice) bytes(count int) []byte {
	b := make([]byte, count)
	for i := range b {
		b[i] = byte(d.of(256))
	}
	return b
}

func (d *dice) one(l []int) int { return l[d.of(len(l))] }

// entry is any that may be.
func (d *dice) entry() api.Entry {
	e := api.Entry{Kind: d.of(4)}
	if e.Kind == api.KData || e.Kind == api.KTrim {
		e.Lba, e.Seq = d.of(1<<16+1), 1+d.of(1<<30)<<d.of(11)
	}
	if e.Kind == api.KData {
		copy(e.Data[:], d.bytes(16))
	}
	return e
}

func (d *dice) entries(count int) []api.Entry {
	l := make([]api.Entry, count)
	for i := range l {
		l[i] = d.entry()
	}
	return l
}

// place is where a row stands, and its number.
type place struct{ dies, serial, super, at int }

func (d *dice) place() place {
	return place{6 + d.of(3), 1 + d.of(1<<30), d.of(256), d.of(256)}
}

// far are numbers beyond all bounds, those among them whose lowest bits are those of a number that may be.
var far = []int{1 << 16, 1<<31 - 1, 1 << 32, 1<<32 + 1, 1<<32 + 2, 1<<32 + 6, 1<<32 + 7, -1 << 32, 6 - 1<<32, 1<<40 + 6, 1 << 41, 1<<56 + 1, math.MaxInt64 - 1, math.MaxInt64, math.MinInt64, math.MinInt64 + 1, math.MinInt64 + 6, -2, -6, -7, -8, -255, -256}

// refusedEntries are some that entry.Check refuses, for each of its reasons.
var refusedEntries = []api.Entry{
	{Kind: -1}, {Kind: 4}, {Kind: 9}, {Kind: math.MinInt64}, {Kind: 1<<32 + api.KSeal}, {Kind: 256}, {Kind: 4, Lba: 1, Seq: 1},
	{Kind: api.KData}, {Kind: api.KTrim}, {Kind: api.KData, Seq: -1}, {Kind: api.KTrim, Seq: 1<<40 + 1},
	{Kind: api.KData, Lba: -1, Seq: 1}, {Kind: api.KTrim, Lba: 1<<16 + 1, Seq: 1},
	{Lba: 1}, {Seq: 1}, {Kind: api.KSeal, Lba: 1}, {Kind: api.KSeal, Seq: 1},
	{Data: [16]byte{1}}, {Data: [16]byte{15: 128}}, {Kind: api.KTrim, Seq: 1, Data: [16]byte{3: 1}}, {Kind: api.KSeal, Data: [16]byte{15: 1}},
}

// edgeEntries are some that entry.Check allows, with their numbers at each of their bounds.
var edgeEntries = []api.Entry{
	{}, {Kind: api.KSeal}, {Kind: api.KTrim, Seq: 1}, {Kind: api.KTrim, Lba: 1 << 16, Seq: 1 << 40}, {Kind: api.KData, Seq: 1},
	{Kind: api.KData, Lba: 1 << 16, Seq: 1 << 40, Data: [16]byte(bytes.Repeat([]byte{255}, 16))}, {Kind: api.KData, Lba: 300, Seq: 70000, Data: [16]byte{0: 1, 15: 2}},
}

// right is whether Encode may make something of it, sentence by sentence.
func right(p place, l []api.Entry) bool {
	if p.dies < 6 || p.dies > 8 || p.serial < 1 || p.serial > 1099511627776 {
		return false
	}
	if p.super < 0 || p.super > 255 || p.at < 0 || p.at > 255 || len(l) > p.dies-2 {
		return false
	}
	for _, e := range l {
		if entry.Check(e) != api.OK {
			return false
		}
	}
	return true
}

// padded are as many as a row has slots, a KNone where there is none.
func padded(dies int, l []api.Entry) []api.Entry {
	all := slices.Clone(l)
	for len(all) < dies-2 {
		all = append(all, api.Entry{Kind: api.KNone})
	}
	return all
}

// heads are the right ones, of each die that holds a slot.
func heads(p place) []api.Head {
	var all []api.Head
	for die := range p.dies - 2 {
		all = append(all, api.Head{Serial: p.serial, Super: p.super, Row: p.at, Die: die})
	}
	return all
}

// closed are payloads with the parities that they need.
func closed(l [][]byte) [][]byte {
	p, q := rs.Parity(l)
	return append(slices.Clone(l), p, q)
}

// written are slots under any heads, with the parities that they need.
func written(h []api.Head, l []api.Entry) [][]byte {
	var all [][]byte
	for i := range h {
		all = append(all, entry.Bytes(h[i], l[i]))
	}
	return closed(all)
}

// plainEncode is the document's, of what may be.
func plainEncode(p place, l []api.Entry) [][]byte { return written(heads(p), padded(p.dies, l)) }

// plainRow is what Decode is to tell of it.
func plainRow(p place, l []api.Entry) api.Row {
	return api.Row{Serial: p.serial, At: p.at, Slots: padded(p.dies, l)}
}

// plainDecode is the document's, sentence by sentence.
func plainDecode(super, at int, l []api.Page, most int) (api.Row, api.Errno) {
	n := len(l)
	if n < 6 || n > 8 || most < 0 || most > 2 {
		return api.Row{}, api.ErrArg
	}
	blanks, short, lost, there := 0, 0, []int{}, make([][]byte, n)
	for i, p := range l {
		switch {
		case p.State == 0:
			blanks++
		case p.State != 2:
			lost = append(lost, i)
		case len(p.B) != 48:
			short++
		default:
			there[i] = p.B
		}
	}
	switch {
	case blanks == n:
		return api.Row{}, api.ErrNone
	case blanks > 0:
		return api.Row{}, api.ErrBad
	case len(lost) > most:
		return api.Row{}, api.ErrMedia
	case short > 0:
		return api.Row{}, api.ErrBad
	}
	made, ok := rs.Fix(there, lost)
	if !ok || !rs.Check(made) {
		return api.Row{}, api.ErrBad
	}
	return plainTold(super, at, made[:n-2])
}

// plainTold is the end of it, of the payloads that hold slots.
func plainTold(super, at int, l [][]byte) (api.Row, api.Errno) {
	r := api.Row{At: at}
	for i, b := range l {
		h, e, err := entry.Parse(b)
		if err != api.OK || h.Super != super || h.Row != at || h.Die != i || i > 0 && h.Serial != r.Serial {
			return api.Row{}, api.ErrBad
		}
		r.Serial = h.Serial
		r.Slots = append(r.Slots, e)
	}
	return r, api.OK
}

// pages are payloads as good pages.
func pages(l [][]byte) []api.Page {
	var all []api.Page
	for _, b := range l {
		all = append(all, api.Page{State: api.Good, B: bytes.Clone(b)})
	}
	return all
}

// with is l with another page at some of its places.
func with(l []api.Page, p api.Page, places ...int) []api.Page {
	all := slices.Clone(l)
	for _, i := range places {
		all[i] = p
	}
	return all
}

// spoilt is l with one byte of one page as it was not.
func spoilt(l []api.Page, page, at int, by byte) []api.Page {
	b := bytes.Clone(l[page].B)
	b[at] ^= by
	return with(l, api.Page{State: l[page].State, B: b}, page)
}

// chosen are the numbers of a mask's bits.
func chosen(mask int) []int {
	var l []int
	for i := range 9 {
		if mask>>i&1 == 1 {
			l = append(l, i)
		}
	}
	return l
}

var (
	blankPage = api.Page{State: api.Blank}
	badPage   = api.Page{State: api.Bad}
)

// noStates are those that count as Bad.
var noStates = []int{-1, 3, 4, 255, 256, 257, 258, 1 << 32, 1<<32 + 1, 1<<32 + 2, -2, math.MaxInt64, math.MinInt64, math.MinInt64 + 2}

func sameLists(a, b [][]byte) bool { return slices.EqualFunc(a, b, bytes.Equal) }

func sameRow(a, b api.Row) bool {
	return a.Serial == b.Serial && a.At == b.At && slices.Equal(a.Slots, b.Slots)
}

func wantPayloads(t *testing.T, p place, l []api.Entry, want [][]byte) {
	t.Helper()
	if got, e := row.Encode(p.dies, p.serial, p.super, p.at, l); e != api.OK || !sameLists(got, want) {
		t.Fatalf("Encode(%+v, %+v): %v, %v, want %v", p, l, got, e, want)
	}
}

// wantNoPayloads asks for ErrArg, and for nothing beside it.
func wantNoPayloads(t *testing.T, p place, l []api.Entry) {
	t.Helper()
	if got, e := row.Encode(p.dies, p.serial, p.super, p.at, l); e != api.ErrArg || len(got) != 0 {
		t.Fatalf("Encode(%+v, %d slots): %v, %v, want ErrArg", p, len(l), got, e)
	}
}

// agreesEncode holds Encode against the document, of anything.
func agreesEncode(t *testing.T, p place, l []api.Entry) {
	t.Helper()
	if right(p, l) {
		wantPayloads(t, p, l, plainEncode(p, l))
	} else {
		wantNoPayloads(t, p, l)
	}
}

func wantRow(t *testing.T, super, at int, l []api.Page, most int, want api.Row) {
	t.Helper()
	wantDecode(t, super, at, l, most, want, api.OK)
}

// wantNoRow asks for the error, and for zero values beside it.
func wantNoRow(t *testing.T, super, at int, l []api.Page, most int, want api.Errno) {
	t.Helper()
	wantDecode(t, super, at, l, most, api.Row{}, want)
}

func wantDecode(t *testing.T, super, at int, l []api.Page, most int, want api.Row, err api.Errno) {
	t.Helper()
	if got, e := row.Decode(super, at, l, most); e != err || !sameRow(got, want) {
		t.Fatalf("Decode(%d, %d, %+v, %d): %+v, %v, want %+v, %v", super, at, l, most, got, e, want, err)
	}
}

// agreesDecode holds Decode against plainDecode, and tells the error.
func agreesDecode(t *testing.T, super, at int, l []api.Page, most int) api.Errno {
	t.Helper()
	want, err := plainDecode(super, at, l, most)
	wantDecode(t, super, at, l, most, want, err)
	return err
}

// sample is a row that was written.
type sample struct {
	p     place
	slots []api.Entry
	pages []api.Page
	row   api.Row
}

func sampleOf(p place, l []api.Entry) sample {
	return sample{p, l, pages(plainEncode(p, l)), plainRow(p, l)}
}

// samples are rows of each count of dies, at all bounds of their numbers.
func samples() []sample {
	d := &dice{77}
	var all []sample
	for dies := 6; dies <= 8; dies++ {
		for i, p := range []place{{dies, 1, 0, 0}, {dies, 1 << 40, 255, 255}, {dies, 0x0102030405, 3, 2}} {
			all = append(all, sampleOf(p, nil), sampleOf(p, edgeEntries[:dies-2]), sampleOf(p, d.entries(1+i)), sampleOf(p, d.entries(dies-2)))
		}
	}
	return all
}

// few are one sample of each count of dies, each slot of it another one.
func few() []sample {
	d := &dice{78}
	var all []sample
	for dies := 6; dies <= 8; dies++ {
		l := []api.Entry{{Kind: api.KData, Lba: 5, Seq: 900, Data: [16]byte{1, 2, 3}}, {Kind: api.KTrim, Lba: 6, Seq: 901}, {Kind: api.KSeal}, {}}
		for len(l) < dies-2 {
			l = append(l, api.Entry{Kind: api.KData, Lba: d.of(1 << 16), Seq: 902, Data: [16]byte(d.bytes(16))})
		}
		all = append(all, sampleOf(place{dies, 0x0909080700 + dies, 3, 2}, l))
	}
	return all
}
