package bch_test

import (
	"bytes"
	"math/bits"
	"slices"
	"testing"

	"ramekin/bch"
)

// die throws the same numbers in each run.
type die struct{ n uint64 }

func (d *die) of(k int) int {
	d.n = d.n*6364136223846793005 + 1442695040888963407
	return int(d.n>>33) % k
}

func (d *die) bytes(count int) []byte {
	b := make([]byte, count)
	for i := range b {
		b[i] = byte(d.of(256))
	}
	return b
}

// places are so many of 0 to 223, no two the same.
func (d *die) places(count int) []int {
	var l []int
	for len(l) < count {
		if p := d.of(224); !slices.Contains(l, p) {
			l = append(l, p)
		}
	}
	return l
}

// turned is the word with the bits at these places turned.
func turned(w []byte, places ...int) []byte {
	other := slices.Clone(w)
	for _, p := range places {
		other[p/8] ^= 1 << (p % 8)
	}
	return other
}

// apart counts the bits in which two words differ.
func apart(a, b []byte) int {
	count := 0
	for i := range a {
		count += bits.OnesCount8(a[i] ^ b[i])
	}
	return count
}

// bitsOf is a word as a polynomial.
func bitsOf(w []byte) []byte {
	p := make([]byte, 8*len(w))
	for at := range p {
		p[at] = w[at/8] >> (at % 8) & 1
	}
	return p
}

// plain is the generator written out.
var plain = []byte{1, 0, 1, 1, 1, 1, 1, 1, 0, 1, 0, 0, 0, 0, 1, 0, 1, 1, 0, 1, 1, 0, 1, 0, 0, 1, 1, 1, 0, 1, 1, 1, 1}

// leftOf divides a polynomial of bits by plain the long way, and tells what is left: bit k is the number of x^k.
func leftOf(p []byte) uint32 {
	rest := append(slices.Clone(p), make([]byte, 33)...)
	for top := len(rest) - 1; top >= 32; top-- {
		if rest[top] == 1 {
			for k, number := range plain {
				rest[top-32+k] ^= number
			}
		}
	}
	left := uint32(0)
	for k := range 32 {
		left |= uint32(rest[k]) << k
	}
	return left
}

// columns are what is left of each x^k alone.
func columns(count int) []uint32 {
	var l []uint32
	for k := range count {
		l = append(l, leftOf(append(make([]byte, k), 1)))
	}
	return l
}

// withLeft is a word of noughts, but for the front four bytes: of it that is left.
func withLeft(left uint32) []byte {
	w := make([]byte, 28)
	for at := range 4 {
		w[at] = byte(left >> (8 * at))
	}
	return w
}

// valueAt adds up, at the n-th power of 2, the powers of the bits that are 1.
func valueAt(w []byte, n int) byte {
	var power [255]byte
	x := 1
	for k := range power {
		power[k] = byte(x)
		x <<= 1
		if x > 255 {
			x ^= 0x11D
		}
	}
	value := byte(0)
	for place, bit := range bitsOf(w) {
		value ^= bit * power[n*place%255]
	}
	return value
}

// oracle knows which places, three at most, make what is left; it looks them up, and has no field.
type oracle struct {
	one []uint32
	two map[uint32][]int
}

func newOracle() oracle {
	o := oracle{columns(224), map[uint32][]int{0: nil}}
	for i, a := range o.one {
		o.two[a] = []int{i}
		for j, b := range o.one[:i] {
			o.two[a^b] = []int{j, i}
		}
	}
	return o
}

func (o oracle) places(left uint32) ([]int, bool) {
	if l, ok := o.two[left]; ok {
		return l, true
	}
	for k, c := range o.one {
		if l, ok := o.two[left^c]; ok {
			return append([]int{k}, l...), true
		}
	}
	return nil, false
}

// agrees holds Decode against what the document asks of it, and answers whether that is ok.
func (o oracle) agrees(t *testing.T, w []byte) bool {
	t.Helper()
	places, ok := o.places(leftOf(bitsOf(w)))
	if ok {
		wantData(t, w, turned(w, places...)[4:], len(places))
	} else {
		wantNotOk(t, w)
	}
	return ok
}

func wantData(t *testing.T, w, data []byte, flips int) {
	t.Helper()
	if got, n, ok := bch.Decode(w); !ok || n != flips || !bytes.Equal(got, data) {
		t.Fatalf("Decode(%v): %v, %d, %v, want %v, %d", w, got, n, ok, data, flips)
	}
}

func wantNotOk(t *testing.T, w []byte) {
	t.Helper()
	if got, n, ok := bch.Decode(w); ok || n != 0 || len(got) != 0 {
		t.Fatalf("Decode(%v): %v, %d, %v, want not ok", w, got, n, ok)
	}
}

// someData are noughts, ones, rising bytes, a single bit at either end, and any.
func someData() [][]byte {
	rising := make([]byte, 24)
	for i := range rising {
		rising[i] = byte(i + 1)
	}
	first, last := make([]byte, 24), make([]byte, 24)
	first[0], last[23] = 1, 128
	d := &die{17}
	return [][]byte{make([]byte, 24), bytes.Repeat([]byte{255}, 24), rising, first, last, d.bytes(24), d.bytes(24)}
}

// subsets tells all of l that have so many items.
func subsets(l []int, count int) [][]int {
	if count == 0 {
		return [][]int{nil}
	}
	var all [][]int
	for i := range l {
		for _, s := range subsets(l[i+1:], count-1) {
			all = append(all, append([]int{l[i]}, s...))
		}
	}
	return all
}
