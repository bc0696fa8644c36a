package bits_test

import (
	"bytes"
	"slices"
	"testing"

	"ramekin/bits"
)

// die throws the same numbers in each run.
type die struct{ n uint64 }

func (d *die) of(k int) int {
	d.n = d.n*6364136223846793005 + 1442695040888963407
	return int(d.n>>33) % k
}

func (d *die) bytes(count int) []byte {
	b := make([]byte, count)
	for i := range b {
		b[i] = byte(d.of(256))
	}
	return b
}

// digits are the noughts and ones of b, bit 0 first, by halving each byte: the tests' own bits need no shifts.
func digits(b []byte) []int {
	var all []int
	for _, x := range b {
		for v, k := int(x), 0; k < 8; v, k = v/2, k+1 {
			all = append(all, v%2)
		}
	}
	return all
}

// packed is the other way round.
func packed(all []int) []byte {
	var b []byte
	for at := 0; at < len(all); at += 8 {
		v := 0
		for _, digit := range slices.Backward(all[at : at+8]) {
			v = 2*v + digit
		}
		b = append(b, byte(v))
	}
	return b
}

func plainFlip(b []byte, l []int) []byte {
	all := digits(b)
	for place := range all {
		for _, k := range l {
			if k == place {
				all[place] = 1 - all[place]
			}
		}
	}
	return packed(all)
}

func plainMix(old, now, mask []byte) []byte {
	var long []byte
	for len(mask) > 0 && len(long) < len(old) {
		long = append(long, mask...)
	}
	all := digits(old)
	for place, chosen := range digits(long) {
		if place < len(all) && chosen == 1 {
			all[place] = digits(now)[place]
		}
	}
	return packed(all)
}

func plainApart(a, b []byte) []int {
	var l []int
	others := digits(b)
	for place, digit := range digits(a) {
		if digit != others[place] {
			l = append(l, place)
		}
	}
	return l
}

func wantFlip(t *testing.T, b []byte, l []int, want []byte) {
	t.Helper()
	if got := bits.Flip(b, l); !bytes.Equal(got, want) {
		t.Fatalf("Flip(%v, %v): %v, want %v", b, l, got, want)
	}
}

func wantMix(t *testing.T, old, now, mask, want []byte) {
	t.Helper()
	if got := bits.Mix(old, now, mask); !bytes.Equal(got, want) {
		t.Fatalf("Mix(%v, %v, %v): %v, want %v", old, now, mask, got, want)
	}
}

func wantApart(t *testing.T, a, b []byte, want []int) {
	t.Helper()
	if got := bits.Apart(a, b); !slices.Equal(got, want) {
		t.Fatalf("Apart(%v, %v): %v, want %v", a, b, got, want)
	}
}

// single is noughts, but for one bit.
func single(count, place int) []byte {
	all := make([]int, 8*count)
	all[place] = 1
	return packed(all)
}

func full(count int) []byte { return bytes.Repeat([]byte{255}, count) }

// upTo are all places of so many bytes.
func upTo(count int) []int {
	var l []int
	for k := range 8 * count {
		l = append(l, k)
	}
	return l
}
