package rowio_test

import (
	"bytes"
	"math"
	"testing"

	"ramekin/api"
	"ramekin/nand"
	"ramekin/page"
	"ramekin/rowio"
)

// dice throw the same numbers in each run.
type dice struct{ n uint64 }

func (d *dice) of(k int) int {
	d.n = d.n*6364136223846793005 + 1442695040888963407
	return int(d.n>>33) % k
}

func (d *dice) bytes(count int) []byte {
	b := make([]byte, count)
	for i := range b {
		b[i] = byte(d.of(256))
	}
	return b
}

// row is a payload for each die.
func (d *dice) row(dies int) [][]byte {
	var l [][]byte
	for range dies {
		l = append(l, d.bytes(48))
	}
	return l
}

// noise are places of a page's bits, none twice: so many of the marker, of the first word, of the second one.
func (d *dice) noise(marks, first, second int) []int {
	l := d.picked(0, 32, marks)
	l = append(l, d.picked(32, 224, first)...)
	return append(l, d.picked(256, 224, second)...)
}

// picked are so many of the numbers from start on, none twice.
func (d *dice) picked(start, span, count int) []int {
	var left []int
	for k := range span {
		left = append(left, start+k)
	}
	for i := range count {
		j := i + d.of(span-i)
		left[i], left[j] = left[j], left[i]
	}
	return left[:count]
}

var (
	least = api.Geometry{Dies: 6, Blocks: 8, Pages: 4}
	odd   = api.Geometry{Dies: 7, Blocks: 9, Pages: 5}
	most  = api.Geometry{Dies: 8, Blocks: 12, Pages: 8}
	three = []api.Geometry{least, odd, most}
)

// far are numbers that none of flash has.
var far = []int{-1, -2, -6, -255, 13, 255, 256, 1 << 32, 1<<32 + 1, -1 << 32, math.MaxInt32, math.MinInt32, math.MaxInt64, math.MinInt64}

func flash(t *testing.T, g api.Geometry, bad ...[2]int) *nand.Nand {
	t.Helper()
	n, e := nand.New(g, bad)
	if e != api.OK || n == nil {
		t.Fatalf("New(%v, %v): %v", g, bad, e)
	}
	return n
}

// stairs are a block of each die, of other numbers on dies side by side.
func stairs(g api.Geometry, shift int) []int {
	var blocks []int
	for die := range g.Dies {
		blocks = append(blocks, (5*die+shift)%g.Blocks)
	}
	return blocks
}

// inPlaceOf is blocks with another one of that die.
func inPlaceOf(blocks []int, die, block int) []int {
	l := append([]int(nil), blocks...)
	l[die] = block
	return l
}

func filled(x byte) []byte { return bytes.Repeat([]byte{x}, 60) }

func blank() []byte { return filled(255) }

// plainMix is the document's, a byte at a time.
func plainMix(old, now, mask []byte) []byte {
	b := bytes.Clone(old)
	for i := range b {
		if len(mask) > 0 {
			m := mask[i%len(mask)]
			b[i] = old[i]&^m | now[i]&m
		}
	}
	return b
}

// held are the pages (die, block, page) of flash that are not 255s.
type held map[[3]int][]byte

// write is what a row's first dies, so many, hold then.
func (h held) write(blocks []int, at int, l [][]byte, dies int) {
	for die := range dies {
		h[[3]int{die, blocks[die], at}] = page.Encode(l[die])
	}
}

func (h held) of(die, block, page int) []byte {
	if b := h[[3]int{die, block, page}]; b != nil {
		return b
	}
	return blank()
}

// wantHeld asks for each page of flash.
func wantHeld(t *testing.T, n *nand.Nand, h held) {
	t.Helper()
	g := n.Geometry()
	for die := range g.Dies {
		for block := range g.Blocks {
			if !sound(n, die, block) {
				continue
			}
			for page := range g.Pages {
				if got, e := n.Read(die, block, page); e != api.OK || !bytes.Equal(got, h.of(die, block, page)) {
					t.Fatalf("page %d of block %d of die %d: %v, %v, want %v", page, block, die, got, e, h.of(die, block, page))
				}
			}
		}
	}
}

func wantErrno(t *testing.T, what string, got, want api.Errno) {
	t.Helper()
	if got != want {
		t.Fatalf("%s: %v, want %v", what, got, want)
	}
}

func wantCounts(t *testing.T, n *nand.Nand, ops, wrong int) {
	t.Helper()
	if n.Ops() != ops || n.Wrong() != wrong {
		t.Fatalf("Ops %d, Wrong %d, want %d, %d", n.Ops(), n.Wrong(), ops, wrong)
	}
}

// wantCounted runs a call by which so many are done, or torn, and so many refused.
func wantCounted(t *testing.T, n *nand.Nand, ops, wrong int, call func()) {
	t.Helper()
	ops, wrong = ops+n.Ops(), wrong+n.Wrong()
	call()
	wantCounts(t, n, ops, wrong)
}

// wantWrite, wantRead and wantErase are of calls by which so many are done, or torn, and so many refused.
func wantWrite(t *testing.T, n *nand.Nand, blocks []int, at int, l [][]byte, want api.Errno, ops, wrong int) {
	t.Helper()
	wantCounted(t, n, ops, wrong, func() { wantErrno(t, "Write", rowio.Write(n, blocks, at, l), want) })
}

func wantErase(t *testing.T, n *nand.Nand, blocks []int, want api.Errno, ops, wrong int) {
	t.Helper()
	wantCounted(t, n, ops, wrong, func() { wantErrno(t, "Erase", rowio.Erase(n, blocks), want) })
}

// wantNoRead is of a Read that answers no pages.
func wantNoRead(t *testing.T, n *nand.Nand, blocks []int, at int, want api.Errno, ops, wrong int) {
	t.Helper()
	wantCounted(t, n, ops, wrong, func() {
		if got, e := rowio.Read(n, blocks, at); e != want || len(got) != 0 {
			t.Fatalf("Read(%v, %d): %v, %v, want %v alone", blocks, at, got, e, want)
		}
	})
}

func wantRead(t *testing.T, n *nand.Nand, blocks []int, at int, want []api.Page) {
	t.Helper()
	wantCounted(t, n, n.Geometry().Dies, 0, func() {
		if got, e := rowio.Read(n, blocks, at); e != api.OK || !samePages(got, want) {
			t.Fatalf("Read(%v, %d): %v, %v, want %v", blocks, at, got, e, want)
		}
	})
}

// goods are the pages of which a row is read that was written so.
func goods(l [][]byte) []api.Page {
	var pages []api.Page
	for _, b := range l {
		pages = append(pages, api.Page{State: api.Good, B: b})
	}
	return pages
}

// with is pages with another one in one place.
func with(pages []api.Page, die int, p api.Page) []api.Page {
	l := append([]api.Page(nil), pages...)
	l[die] = p
	return l
}

func samePages(a, b []api.Page) bool {
	if len(a) != len(b) {
		return false
	}
	for i := range a {
		if a[i].State != b[i].State || !bytes.Equal(a[i].B, b[i].B) {
			return false
		}
	}
	return true
}

// wantErases asks of each block how often it was erased; of one that is not named: never.
func wantErases(t *testing.T, n *nand.Nand, want map[[2]int]int) {
	t.Helper()
	g := n.Geometry()
	for die := range g.Dies {
		for block := range g.Blocks {
			if got := n.Erases(die, block); got != want[[2]int{die, block}] {
				t.Fatalf("block %d of die %d was erased %d times, want %d", block, die, got, want[[2]int{die, block}])
			}
		}
	}
}

// wantNext is of a block's next page, which is used up then, if there is one; a Stop that is set is gone.
func wantNext(t *testing.T, n *nand.Nand, die, block, want int) {
	t.Helper()
	for page := range n.Geometry().Pages {
		if page != want {
			wantErrno(t, "Program of a page that is not the next one", n.Program(die, block, page, blank()), api.ErrArg)
		}
	}
	if want == n.Geometry().Pages {
		return
	}
	// Were it not the next one it would be refused, and the power would stay.
	n.Stop(1, nil)
	wantErrno(t, "Program of the next page", n.Program(die, block, want, blank()), api.ErrDead)
	n.Power()
}

// sound is a block that is there, and not bad.
func sound(n *nand.Nand, die, block int) bool {
	return block >= 0 && block < n.Geometry().Blocks && !n.IsBad(die, block)
}

// written is flash of which some rows of these blocks are, from the first one on: its payloads, and what it holds.
func written(t *testing.T, g api.Geometry, blocks []int, rows int) (*nand.Nand, [][][]byte, held) {
	t.Helper()
	n, h, d := flash(t, g), held{}, &dice{uint64(rows + g.Dies)}
	var all [][][]byte
	for at := range rows {
		l := d.row(g.Dies)
		wantWrite(t, n, blocks, at, l, api.OK, g.Dies, 0)
		h.write(blocks, at, l, g.Dies)
		all = append(all, l)
	}
	return n, all, h
}
