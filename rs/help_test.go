package rs_test

import (
	"bytes"
	"slices"
	"testing"

	"ramekin/rs"
)

// die throws the same numbers in each run.
type die struct{ n uint64 }

func (d *die) of(k int) int {
	d.n = d.n*6364136223846793005 + 1442695040888963407
	return int(d.n>>33) % k
}

func (d *die) bytes(count int) []byte {
	b := make([]byte, count)
	for i := range b {
		b[i] = byte(d.of(256))
	}
	return b
}

func (d *die) rows(count, size int) [][]byte {
	l := make([][]byte, count)
	for i := range l {
		l[i] = d.bytes(size)
	}
	return l
}

// powers are the first powers of 2 in the field, written out: the tests' own parities need no package of the program.
var powers = []byte{1, 2, 4, 8, 16, 32, 64, 128, 29, 58, 116, 232, 205, 135}

// product is worked out the long way: all bits of one with all of the other, and then what is left of it by the rule.
func product(a, b byte) byte {
	whole := 0
	for k := range 8 {
		whole ^= int(a) << k * int(b>>k&1)
	}
	for k := 14; k >= 8; k-- {
		whole ^= 0x11D << (k - 8) * (whole >> k & 1)
	}
	return byte(whole)
}

// plainParity adds up what the document says, of rows that may be.
func plainParity(l [][]byte) (p, q []byte) {
	p, q = make([]byte, len(l[0])), make([]byte, len(l[0]))
	for i, row := range l {
		for k, x := range row {
			p[k] ^= x
			q[k] ^= product(powers[i], x)
		}
	}
	return p, q
}

// plainCheck is whether the last two are plainParity of the others.
func plainCheck(l [][]byte) bool {
	n := len(l) - 2
	p, q := plainParity(l[:n])
	return bytes.Equal(p, l[n]) && bytes.Equal(q, l[n+1])
}

// whole are any rows of data with their parities.
func (d *die) whole(data, size int) [][]byte {
	l := d.rows(data, size)
	p, q := plainParity(l)
	return append(l, p, q)
}

func copied(l [][]byte) [][]byte {
	c := make([][]byte, len(l))
	for i, row := range l {
		c[i] = slices.Clone(row)
	}
	return c
}

// with is l with other bytes for some of its rows.
func with(l [][]byte, row []byte, numbers ...int) [][]byte {
	c := slices.Clone(l)
	for _, i := range numbers {
		c[i] = row
	}
	return c
}

func sameRows(a, b [][]byte) bool { return slices.EqualFunc(a, b, bytes.Equal) }

func wantRows(t *testing.T, l [][]byte, lost []int, want [][]byte) {
	t.Helper()
	if got, ok := rs.Fix(l, lost); !ok || !sameRows(got, want) {
		t.Fatalf("Fix(%v, %v): %v, %v, want %v", l, lost, got, ok, want)
	}
}

func wantNoRows(t *testing.T, l [][]byte, lost ...int) {
	t.Helper()
	if got, ok := rs.Fix(l, lost); ok || len(got) != 0 {
		t.Fatalf("Fix(%v, %v): %v, %v, want false", l, lost, got, ok)
	}
}

func wantNoParity(t *testing.T, l [][]byte) {
	t.Helper()
	if p, q := rs.Parity(l); len(p) != 0 || len(q) != 0 {
		t.Fatalf("Parity(%v): %v, %v, want nothing", l, p, q)
	}
}

// losses are all that may be lost of so many rows, but nothing: each one, and any two in either order.
func losses(rows int) [][]int {
	var all [][]int
	for i := range rows {
		all = append(all, []int{i})
		for j := range rows {
			if j != i {
				all = append(all, []int{i, j})
			}
		}
	}
	return all
}
