package rs_test

import (
	"bytes"
	"slices"
	"testing"

	"ramekin/rs"
)

// roomy is l with spare room behind its rows and behind itself, and all that memory.
func roomy(l [][]byte) (front [][]byte, whole [][]byte) {
	for _, row := range l {
		whole = append(whole, append(slices.Clone(row), bytes.Repeat([]byte{0xEE}, 16)...))
	}
	for i, row := range l {
		front = append(front, whole[i][:len(row)])
	}
	spare := []byte{0xDD}
	whole = append(whole, spare)
	return append(front, spare)[:len(l)], whole
}

// scribble fills what was answered, its spare room too.
func scribble(answers ...[]byte) {
	for _, a := range answers {
		a = a[:cap(a)]
		for i := range a {
			a[i] ^= 0x5A
		}
	}
}

func TestP2WhatWasHandedInStays(t *testing.T) {
	d := &die{20}
	for n := 4; n <= 16; n++ {
		for _, lost := range append(losses(n), nil) {
			l, all := roomy(d.rows(n, 5))
			was := copied(all)
			numbers := append(slices.Clone(lost), 77, 78)
			wasNumbers := slices.Clone(numbers)
			rs.Check(l)
			p, q := rs.Parity(l[:n-2])
			out, _ := rs.Fix(l, numbers[:len(lost)])
			scribble(p, q)
			scribble(out...)
			clear(out[:cap(out)])
			if !sameRows(all, was) || !slices.Equal(numbers, wasNumbers) {
				t.Fatalf("%d rows, %v lost: what was handed in changed", n, lost)
			}
			spare := l[:n+1]
			for i, row := range spare {
				if &row[0] != &all[i][0] {
					t.Fatalf("%d rows, %v lost: the list that was handed in has another row %d", n, lost, i)
				}
			}
		}
	}
}

func TestP2WhatWasHandedInIsNotKept(t *testing.T) {
	d := &die{21}
	for n := 4; n <= 16; n++ {
		for _, lost := range append(losses(n), nil) {
			l := d.whole(n-2, 5)
			want := copied(l)
			p, q := rs.Parity(l[:n-2])
			out, ok := rs.Fix(l, lost)
			scribble(l...)
			clear(l)
			if !ok || !sameRows(out, want) || !bytes.Equal(p, want[n-2]) || !bytes.Equal(q, want[n-1]) {
				t.Fatalf("%d rows, %v lost: an answer hangs on what was handed in", n, lost)
			}
		}
	}
}

// Each row of an answer is filled up in turn, its spare room too: the others stay.
func TestP2RowsOfAnAnswerShareNothing(t *testing.T) {
	d := &die{22}
	for n := 4; n <= 16; n++ {
		shared := d.bytes(5) // handed in as several rows at once
		for _, l := range [][][]byte{d.rows(n, 5), slices.Repeat([][]byte{shared}, n), slices.Repeat([][]byte{make([]byte, 5)}, n)} {
			for _, lost := range append(losses(n), nil) {
				out, _ := rs.Fix(l, lost)
				want := copied(out)
				for i := range out {
					scribble(out[i])
					for j := range out {
						if j != i && !bytes.Equal(out[j], want[j]) {
							t.Fatalf("%d rows, %v lost: rows %d and %d share memory", n, lost, i, j)
						}
					}
					scribble(out[i])
				}
			}
			p, q := rs.Parity(l[:n-2])
			wasQ := slices.Clone(q)
			scribble(p)
			if !bytes.Equal(q, wasQ) {
				t.Fatalf("%d rows: the parities share memory", n-2)
			}
		}
	}
}

// One row's memory may be that of another one, in part or whole.
func TestP2RowsHandedInMayShareMemory(t *testing.T) {
	long := (&die{23}).bytes(40)
	for n := 4; n <= 16; n++ {
		var l [][]byte
		for i := range n {
			l = append(l, long[i:i+9])
		}
		was := slices.Clone(long)
		plain := copied(l)
		for _, lost := range append(losses(n), nil) {
			want, _ := rs.Fix(plain, lost)
			wantRows(t, l, lost, want)
		}
		if !bytes.Equal(long, was) {
			t.Fatalf("%d rows: what was handed in changed", n)
		}
	}
}

func TestP3TheSameCallsAnswerTheSame(t *testing.T) {
	d := &die{24}
	for n := 4; n <= 16; n++ {
		l := d.whole(n-2, 5)
		for _, lost := range append(losses(n), nil) {
			for range 2 {
				p, q := rs.Parity(l[:n-2])
				if !bytes.Equal(p, l[n-2]) || !bytes.Equal(q, l[n-1]) || !rs.Check(l) {
					t.Fatalf("%d rows: an answer was kept", n)
				}
				wantRows(t, l, lost, l)
				out, _ := rs.Fix(l, lost)
				scribble(append(out, p, q)...)
			}
		}
	}
}
