package bch

import "iter"

// rule is Generator, bit k the number of x^k: written out, as to make it anew takes longer than all else that a word needs.
const rule = 0x1EE5B42FD

// rest is what a division of the word by Generator leaves, bit k the number of x^k: nought of codewords alone.
func rest(w []byte) uint32 {
	left := uint64(0)
	for bit := range falling(w) {
		left = left<<1 | bit
		left ^= (left >> parityBits) * rule // where there is an x^32, that takes it out again
	}
	return uint32(left)
}

// falling tells the word's bits from the highest power down, as a division goes.
func falling(w []byte) iter.Seq[uint64] {
	return func(yield func(uint64) bool) {
		for place := 8*len(w) - 1; place >= 0; place-- {
			if !yield(uint64(w[place/8] >> (place % 8) & 1)) {
				return
			}
		}
	}
}

// numbers are a rest's bits as a polynomial.
func numbers(left uint32) []byte {
	p := make([]byte, parityBits)
	for k := range p {
		p[k] = byte(left >> k & 1)
	}
	return p
}
