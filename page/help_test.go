package page_test

import (
	"bytes"
	"slices"
	"testing"

	"ramekin/api"
	"ramekin/bch"
	"ramekin/page"
)

// A page's bits: its marker's from 0 on, those of its two words from here on.
const (
	firstWord  = 32
	secondWord = 256
)

// dice throw the same numbers in each run.
type dice struct{ n uint64 }

func (d *dice) of(k int) int {
	d.n = d.n*6364136223846793005 + 1442695040888963407
	return int(d.n>>33) % k
}

func (d *dice) bytes(count int) []byte {
	b := make([]byte, count)
	for i := range b {
		b[i] = byte(d.of(256))
	}
	return b
}

// picked are so many of the items, none twice.
func (d *dice) picked(items []int, count int) []int {
	left := slices.Clone(items)
	for i := range count {
		j := i + d.of(len(left)-i)
		left[i], left[j] = left[j], left[i]
	}
	return left[:count]
}

// noise are places to turn: so many of the marker, of the first word, of the second one.
func (d *dice) noise(marks, first, second int) []int {
	return slices.Concat(d.picked(run(0, 32), marks), d.picked(run(firstWord, 224), first), d.picked(run(secondWord, 224), second))
}

func run(start, count int) []int {
	var l []int
	for k := range count {
		l = append(l, start+k)
	}
	return l
}

// moved are the places, each so much further.
func moved(l []int, by int) []int {
	var all []int
	for _, place := range l {
		all = append(all, place+by)
	}
	return all
}

// turned is the page with the bits at these places turned.
func turned(raw []byte, places ...int) []byte {
	other := bytes.Clone(raw)
	for _, place := range places {
		other[place/8] ^= 1 << (place % 8)
	}
	return other
}

func full(count int) []byte { return bytes.Repeat([]byte{255}, count) }

// marks are how many of the marker's bits are 1, by halving each byte.
func marks(raw []byte) int {
	count := 0
	for _, x := range raw[:4] {
		for v := int(x); v > 0; v /= 2 {
			count += v % 2
		}
	}
	return count
}

// plainDecode is the document's, one word after the other.
func plainDecode(raw []byte) (int, []byte) {
	if len(raw) != 60 {
		return api.Bad, nil
	}
	if marks(raw) > 16 {
		return api.Blank, nil
	}
	first, _, firstOk := bch.Decode(raw[4:32])
	second, _, secondOk := bch.Decode(raw[32:60])
	if !firstOk || !secondOk {
		return api.Bad, nil
	}
	return api.Good, slices.Concat(first, second)
}

func wantPage(t *testing.T, raw []byte, state int, b []byte) {
	t.Helper()
	p := page.Decode(raw)
	if p.State != state || !bytes.Equal(p.B, b) {
		t.Fatalf("Decode(%v): %d, %v, want %d, %v", raw, p.State, p.B, state, b)
	}
	if state == api.Good && len(b) != 48 || state != api.Good && len(b) != 0 {
		t.Fatalf("the test asks for %d bytes in state %d", len(b), state)
	}
}

func wantGood(t *testing.T, raw, b []byte) {
	t.Helper()
	wantPage(t, raw, api.Good, b)
}

func wantBad(t *testing.T, raw []byte) {
	t.Helper()
	wantPage(t, raw, api.Bad, nil)
}

func wantBlank(t *testing.T, raw []byte) {
	t.Helper()
	wantPage(t, raw, api.Blank, nil)
}

// agrees holds Decode against plainDecode, and tells the state.
func agrees(t *testing.T, raw []byte) int {
	t.Helper()
	state, b := plainDecode(raw)
	wantPage(t, raw, state, b)
	return state
}

// somePayloads are noughts, ones, rising bytes, a single bit at each end of each half, and any.
func somePayloads() [][]byte {
	rising := make([]byte, 48)
	for i := range rising {
		rising[i] = byte(5*i + 1)
	}
	d := &dice{17}
	all := [][]byte{make([]byte, 48), full(48), rising, d.bytes(48), d.bytes(48), append(make([]byte, 24), d.bytes(24)...), append(d.bytes(24), full(24)...)}
	for _, place := range []int{0, 191, 192, 383} {
		all = append(all, turned(make([]byte, 48), place))
	}
	return all
}

// subsets tells all of l that have so many items.
func subsets(l []int, count int) [][]int {
	if count == 0 {
		return [][]int{nil}
	}
	var all [][]int
	for i := range l {
		for _, s := range subsets(l[i+1:], count-1) {
			all = append(all, append([]int{l[i]}, s...))
		}
	}
	return all
}
