package bch

import (
	"iter"

	"ramekin/api"
	"ramekin/gf"
)

// terms are those of a polynomial at some x, that of x^0 first: their sum is its value there.
type terms [api.Radius + 1]byte

// wrong tells the places of a word's wrong bits by its rest, if they are at most Radius; else any places, no more than that either.
func wrong(left uint32) iter.Seq[int] {
	return func(yield func(int) bool) {
		if left == 0 {
			return // most words are codewords: for them the search, which would find nothing, is spared
		}
		steps := walk[terms]{locator(values(left)), doubled}
		for place, t := range steps.first(wordBits) {
			if sum(t) == 0 && !yield(place) {
				return
			}
		}
	}
}

// locator has the terms at 1 of the polynomial whose roots, but 0, are 2 to the place of each wrong bit, if at most Radius are wrong.
//
// For up to three roots, let c1, c2, c3 be the sums of their products of one, of two, of three of them; the polynomial is
// x^3 + c1 x^2 + c2 x + c3. The sums of their powers are the syndromes: s1 is c1, s2 is s1^2, s3 is s1^3 + c2 s1 + c3,
// s5 is s1^5 + c2 s3 + c3 s1^2. So with d for s1^3 + s3: c3 is d + c2 s1, and c2 d is s1^2 s3 + s5.
// Of two roots or three d is not 0. Of one it is, and c2 and c3 are noughts, which the inverse of nought, 0, makes them too.
func locator(s []byte) terms {
	s1, s2, s3, s5 := s[0], s[1], s[2], s[4]
	d := gf.Mul(s1, s2) ^ s3
	c2 := gf.Mul(gf.Mul(s2, s3)^s5, gf.Inv(d))
	c3 := gf.Mul(c2, s1) ^ d
	return terms{c3, c2, s1, 1}
}

// doubled are the terms at the double of x.
func doubled(t terms) terms {
	for k := range t {
		t[k] = gf.Mul(t[k], 1<<k)
	}
	return t
}

func sum(t terms) byte {
	value := byte(0)
	for _, term := range t {
		value ^= term
	}
	return value
}
