package rs

import (
	"iter"
	"slices"

	"ramekin/gf"
)

// sums are two, byte by byte: p of all rows but the second parity, q of all but the first one, each row of the data times
// its power of 2. Of rows with their parities both are nought; of rows of which some lack they are what these would add.
type sums struct {
	data int // how many rows there are but the parities
	p, q []byte
}

// sumsOf adds the rows up, each one by its number; false: of so many data there are no parities, or not all rows are of as many bytes.
func sumsOf(rows iter.Seq2[int, []byte], data int) (sums, bool) {
	if data < leastData || data > mostData {
		return sums{}, false
	}
	size, ok := sizeOf(rows)
	if !ok {
		return sums{}, false
	}
	s := sums{data, make([]byte, size), make([]byte, size)}
	for i, row := range rows {
		s.add(i, row)
	}
	return s, true
}

// kept tells the rows that are not lost, each with its number.
func kept(l [][]byte, lost []int) iter.Seq2[int, []byte] {
	return func(yield func(int, []byte) bool) {
		for i, row := range l {
			if !slices.Contains(lost, i) && !yield(i, row) {
				return
			}
		}
	}
}

// sizeOf is how many bytes each of the rows has; false: not all have as many.
func sizeOf(rows iter.Seq2[int, []byte]) (int, bool) {
	size, seen := 0, false
	for _, row := range rows {
		if seen && len(row) != size {
			return 0, false
		}
		size, seen = len(row), true
	}
	return size, true
}

func (s sums) add(i int, row []byte) {
	inP, inQ := s.shares(i)
	for k, x := range row {
		s.p[k] ^= gf.Mul(x, inP)
		s.q[k] ^= gf.Mul(x, inQ)
	}
}

// shares are how many times row i is in p, and in q.
func (s sums) shares(i int) (inP, inQ byte) {
	switch i {
	case s.data:
		return 1, 0
	case s.second():
		return 0, 1
	}
	return 1, gf.Exp(i)
}

// second is the second parity's number.
func (s sums) second() int { return s.data + 1 }

// fill makes the rows that are lost, which the sums lack. It begins at the step for as many as p lacks: each one makes a
// row, and so leaves what the next one needs.
func (s sums) fill(rows [][]byte, lost []int) {
	inP := slices.DeleteFunc(slices.Clone(lost), func(i int) bool { return i == s.second() })
	switch len(inP) {
	case 0:
		goto lastOfQ
	case 1:
		goto lastOfP
	}
	s.put(rows, inP[1], s.parted(inP[1], inP[0]))
lastOfP:
	s.put(rows, inP[0], slices.Clone(s.p))
lastOfQ:
	// Where the second parity is there it stays, right or not.
	if slices.Contains(lost, s.second()) {
		s.put(rows, s.second(), slices.Clone(s.q))
	}
}

func (s sums) put(rows [][]byte, i int, row []byte) {
	rows[i] = row
	s.add(i, row)
}

// parted is row i, where it and row j are all that p lacks. With x and y for them, and a and b for their shares of q:
// p is x + y, and q is a x + b y, so q + b p is (a + b) x. No two rows that p has have the same share of q.
func (s sums) parted(i, j int) []byte {
	_, a := s.shares(i)
	_, b := s.shares(j)
	inverse := gf.Inv(a ^ b)
	row := make([]byte, len(s.p))
	for k := range row {
		row[k] = gf.Mul(s.q[k]^gf.Mul(s.p[k], b), inverse)
	}
	return row
}
