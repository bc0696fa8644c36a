package nand_test

import (
	"bytes"
	"testing"

	"ramekin/api"
	"ramekin/nand"
)

// dice throw the same numbers in each run.
type dice struct{ n uint64 }

func (d *dice) of(k int) int {
	d.n = d.n*6364136223846793005 + 1442695040888963407
	return int(d.n>>33) % k
}

func (d *dice) bytes(count int) []byte {
	b := make([]byte, count)
	for i := range b {
		b[i] = byte(d.of(256))
	}
	return b
}

var (
	least = api.Geometry{Dies: 6, Blocks: 8, Pages: 4}
	most  = api.Geometry{Dies: 8, Blocks: 12, Pages: 8}
)

func flash(t *testing.T, g api.Geometry, bad ...[2]int) *nand.Nand {
	t.Helper()
	n, e := nand.New(g, bad)
	if e != api.OK || n == nil {
		t.Fatalf("New(%v, %v): %v", g, bad, e)
	}
	return n
}

// filled is a page of one byte.
func filled(x byte) []byte { return bytes.Repeat([]byte{x}, 60) }

func blank() []byte { return filled(255) }

// plainMix is the document's, a byte at a time.
func plainMix(old, now, mask []byte) []byte {
	b := bytes.Clone(old)
	for i := range b {
		if len(mask) > 0 {
			m := mask[i%len(mask)]
			b[i] = old[i]&^m | now[i]&m
		}
	}
	return b
}

// plainFlip asks of each bit how often it is named.
func plainFlip(b []byte, l []int) []byte {
	turned := bytes.Clone(b)
	for place := range 8 * len(b) {
		for _, k := range l {
			if k == place {
				turned[place/8] ^= 1 << (place % 8)
			}
		}
	}
	return turned
}

func wantErrno(t *testing.T, what string, got, want api.Errno) {
	t.Helper()
	if got != want {
		t.Fatalf("%s: %v, want %v", what, got, want)
	}
}

func wantPage(t *testing.T, n *nand.Nand, die, block, page int, want []byte) {
	t.Helper()
	if got, e := n.Read(die, block, page); e != api.OK || !bytes.Equal(got, want) {
		t.Fatalf("Read(%d, %d, %d): %v, %v, want %v", die, block, page, got, e, want)
	}
}

// wantPages are all those of a block, from page 0 on.
func wantPages(t *testing.T, n *nand.Nand, die, block int, want ...[]byte) {
	t.Helper()
	for page, b := range want {
		wantPage(t, n, die, block, page, b)
	}
}

// wantNoRead is of a Read that answers no bytes.
func wantNoRead(t *testing.T, n *nand.Nand, die, block, page int, want api.Errno) {
	t.Helper()
	if got, e := n.Read(die, block, page); e != want || len(got) != 0 {
		t.Fatalf("Read(%d, %d, %d): %v, %v, want %v alone", die, block, page, got, e, want)
	}
}

func program(t *testing.T, n *nand.Nand, die, block, page int, b []byte) {
	t.Helper()
	if e := n.Program(die, block, page, b); e != api.OK {
		t.Fatalf("Program(%d, %d, %d): %v", die, block, page, e)
	}
}

func erase(t *testing.T, n *nand.Nand, die, block int) {
	t.Helper()
	if e := n.Erase(die, block); e != api.OK {
		t.Fatalf("Erase(%d, %d): %v", die, block, e)
	}
}

// wantNext is of a block's next page, which is used up then, if there is one; a Stop that is set is gone.
func wantNext(t *testing.T, n *nand.Nand, die, block, want int) {
	t.Helper()
	for page := -1; page <= n.Geometry().Pages; page++ {
		if page != want {
			wantErrno(t, "Program of a page that is not the next one", n.Program(die, block, page, blank()), api.ErrArg)
		}
	}
	if want == n.Geometry().Pages {
		return
	}
	// Were it not the next one it would be refused, and the power would stay.
	n.Stop(1, nil)
	wantErrno(t, "Program of the next page", n.Program(die, block, want, blank()), api.ErrDead)
	n.Power()
	wantErrno(t, "Program of that page again", n.Program(die, block, want, blank()), api.ErrArg)
}

func wantCounts(t *testing.T, n *nand.Nand, ops, wrong int) {
	t.Helper()
	if n.Ops() != ops || n.Wrong() != wrong {
		t.Fatalf("Ops %d, Wrong %d, want %d, %d", n.Ops(), n.Wrong(), ops, wrong)
	}
}

// wantNoCount runs calls that must not be counted.
func wantNoCount(t *testing.T, n *nand.Nand, calls func()) {
	t.Helper()
	ops, wrong := n.Ops(), n.Wrong()
	calls()
	wantCounts(t, n, ops, wrong)
}
