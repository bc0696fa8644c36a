package bch_test

import (
	"bytes"
	"slices"
	"testing"

	"ramekin/bch"
	"ramekin/gf"
	"ramekin/poly"
)

// nine are the places of a codeword's ones: no codeword but that of noughts has fewer.
var nine = []int{0, 8, 59, 128, 155, 179, 185, 188, 203}

func TestP401Generator(t *testing.T) {
	g := bch.Generator()
	if !bytes.Equal(g, plain) {
		t.Fatalf("Generator: %v, want %v", g, plain)
	}
	want := []byte{1}
	for _, n := range []int{1, 3, 5, 7} {
		want = poly.Mul(want, poly.Minimal(n))
	}
	if !bytes.Equal(g, want) || len(g) != 33 {
		t.Errorf("Generator: %v, want %v", g, want)
	}
	for n := 1; n <= 8; n++ {
		if poly.Eval(g, gf.Exp(n)) != 0 {
			t.Errorf("Generator is not 0 at Exp(%d)", n)
		}
	}
}

// The factors are written out as bits, and multiplied without the field.
func TestP401GeneratorByHand(t *testing.T) {
	product := uint64(1)
	for _, factor := range []uint64{0x11D, 0x177, 0x1F3, 0x169} {
		sum := uint64(0)
		for k := range 9 {
			sum ^= product << k * (factor >> k & 1)
		}
		product = sum
	}
	for k, number := range bch.Generator() {
		if uint64(number) != product>>k&1 {
			t.Errorf("x^%d: %d", k, number)
		}
	}
	if product>>33 != 0 {
		t.Errorf("too long: %x", product)
	}
}

func TestP401EncodeExample(t *testing.T) {
	if w := bch.Encode(make([]byte, 24)); !bytes.Equal(w, make([]byte, 28)) {
		t.Errorf("of noughts: %v", w)
	}
	data := make([]byte, 24)
	data[0] = 1
	if w := bch.Encode(data); !bytes.Equal(w, append([]byte{0xFD, 0x42, 0x5B, 0xEE}, data...)) {
		t.Errorf("of x^32, which makes the generator itself: %v", w)
	}
}

func TestP401EncodeMakesTheMultiple(t *testing.T) {
	d := &die{1}
	all := someData()
	for range 300 {
		all = append(all, d.bytes(24))
	}
	for place := range 192 {
		all = append(all, turned(make([]byte, 24), place))
	}
	for _, data := range all {
		w := bch.Encode(data)
		if len(w) != 28 || !bytes.Equal(w[4:], data) {
			t.Fatalf("Encode(%v): %v", data, w)
		}
		if want := withLeft(leftOf(append(make([]byte, 32), bitsOf(data)...))); !bytes.Equal(w[:4], want[:4]) {
			t.Fatalf("Encode(%v): %v ahead of it, want %v", data, w[:4], want[:4])
		}
		if _, r, ok := poly.Div(bitsOf(w), bch.Generator()); !ok || len(r) != 0 {
			t.Fatalf("Encode(%v): %v leaves %v", data, w, r)
		}
	}
}

func TestP401EncodeOfOtherLengths(t *testing.T) {
	d := &die{2}
	for _, count := range []int{0, 1, 4, 23, 25, 27, 28, 29, 48, 1000} {
		if w := bch.Encode(d.bytes(count)); len(w) != 0 {
			t.Errorf("of %d bytes: %v", count, w)
		}
	}
	if w := bch.Encode(nil); len(w) != 0 {
		t.Errorf("of nil: %v", w)
	}
}

func wantSyndromes(t *testing.T, w []byte) {
	t.Helper()
	s := bch.Syndromes(w)
	if len(s) != 8 {
		t.Fatalf("Syndromes(%v): %v", w, s)
	}
	for i, got := range s {
		if want := valueAt(w, i+1); got != want || want != poly.Eval(bitsOf(w), gf.Exp(i+1)) {
			t.Fatalf("Syndromes(%v): that of Exp(%d) is %d, want %d", w, i+1, got, want)
		}
	}
}

func TestP401Syndromes(t *testing.T) {
	d := &die{3}
	for range 100 {
		wantSyndromes(t, d.bytes(28))
	}
	wantSyndromes(t, make([]byte, 28))
	wantSyndromes(t, bytes.Repeat([]byte{255}, 28))
	for place := range 224 {
		wantSyndromes(t, turned(make([]byte, 28), place))
	}
	for _, data := range someData() {
		w := bch.Encode(data)
		if s := bch.Syndromes(w); !bytes.Equal(s, make([]byte, 8)) {
			t.Errorf("Syndromes of a codeword: %v", s)
		}
		for place := range 224 {
			if s := bch.Syndromes(turned(w, place)); s[0] != gf.Exp(place) || s[6] != gf.Exp(7*place) || s[7] != gf.Exp(8*place) {
				t.Errorf("Syndromes with bit %d turned: %v", place, s)
			}
		}
	}
}

func TestP401OtherLengthsAreNoWords(t *testing.T) {
	d := &die{4}
	for _, count := range []int{0, 1, 4, 24, 27, 29, 32, 56, 1000} {
		for _, w := range [][]byte{make([]byte, count), d.bytes(count)} {
			if s := bch.Syndromes(w); len(s) != 0 {
				t.Errorf("Syndromes of %d bytes: %v", count, s)
			}
			wantNotOk(t, w)
		}
	}
	if s := bch.Syndromes(nil); len(s) != 0 {
		t.Errorf("Syndromes of nil: %v", s)
	}
	wantNotOk(t, nil)
	w := bch.Encode(d.bytes(24))
	wantNotOk(t, w[:27])
	wantNotOk(t, w[1:])
	wantNotOk(t, append(slices.Clone(w), 0))
}

func TestP401DecodeOfCodewordsAndSingleBits(t *testing.T) {
	for _, data := range someData() {
		w := bch.Encode(data)
		wantData(t, w, data, 0)
		for place := range 224 {
			wantData(t, turned(w, place), data, 1)
		}
	}
}

func TestP401DecodeOfAllPairs(t *testing.T) {
	data := (&die{5}).bytes(24)
	w := bch.Encode(data)
	for i := range 224 {
		for j := range i {
			wantData(t, turned(w, i, j), data, 2)
		}
	}
}

// borders are places at the ends of the word and of its front four bytes.
var borders = []int{0, 1, 7, 8, 30, 31, 32, 33, 127, 128, 215, 216, 222, 223}

func TestP401DecodeOfThreeBits(t *testing.T) {
	d := &die{6}
	for _, data := range someData() {
		w := bch.Encode(data)
		for _, l := range subsets(borders, 3) {
			wantData(t, turned(w, l...), data, 3)
		}
	}
	for range 5000 {
		data := d.bytes(24)
		wantData(t, turned(bch.Encode(data), d.places(3)...), data, 3)
	}
	// All in the front four bytes: the data come as they are, but the flips are told.
	data := d.bytes(24)
	for _, l := range subsets([]int{0, 3, 9, 14, 17, 22, 28, 31}, 3) {
		wantData(t, turned(bch.Encode(data), l...), data, 3)
	}
}

func TestP401DecodeOfAnyWords(t *testing.T) {
	o := newOracle()
	d := &die{8}
	far := 0
	for range 20000 {
		if !o.agrees(t, d.bytes(28)) {
			far++
		}
	}
	if far < 19000 {
		t.Errorf("only %d words were near to no codeword", far)
	}
	for k := range 32 {
		o.agrees(t, withLeft(1<<k))
		o.agrees(t, withLeft(1<<k-1))
		o.agrees(t, withLeft(^uint32(0)<<k))
	}
	o.agrees(t, bytes.Repeat([]byte{255}, 28))
	o.agrees(t, bytes.Repeat([]byte{0x55}, 28))
}

// The field has places for 255 bits, the word only 224: a bit behind its end is none that could be mended.
func TestP401DecodeMendsNoBitBehindTheEnd(t *testing.T) {
	c := columns(255)
	d := &die{11}
	for i := 224; i < 255; i++ {
		wantNotOk(t, withLeft(c[i]))
		for j := range i {
			wantNotOk(t, withLeft(c[i]^c[j]))
			if k := d.of(i); k != j {
				wantNotOk(t, withLeft(c[i]^c[j]^c[k]))
			}
		}
	}
}

func TestP402FourAndFiveWrongBitsAreTold(t *testing.T) {
	d := &die{9}
	for _, count := range []int{4, 5} {
		for range 3000 {
			wantNotOk(t, turned(bch.Encode(d.bytes(24)), d.places(count)...))
		}
		for _, data := range someData() {
			for start := 0; start+count <= 224; start++ {
				run := make([]int, count)
				for i := range run {
					run[i] = start + i
				}
				wantNotOk(t, turned(bch.Encode(data), run...))
			}
		}
		for _, l := range subsets(borders, count) {
			wantNotOk(t, turned(bch.Encode(d.bytes(24)), l...))
		}
		for _, l := range subsets(nine, count) {
			wantNotOk(t, turned(bch.Encode(d.bytes(24)), l...))
		}
	}
}

// Of a codeword with six to nine bits wrong the nearest may be another one; then that one's data are told.
func TestP401DecodeTellsTheOtherCodeword(t *testing.T) {
	for _, data := range someData() {
		w := bch.Encode(data)
		other := turned(w, nine...)
		if !bytes.Equal(bch.Encode(other[4:]), other) {
			t.Fatalf("%v is no codeword", other)
		}
		for count := 6; count <= 9; count++ {
			for _, l := range subsets(nine, count) {
				wantData(t, turned(w, l...), other[4:], 9-count)
			}
		}
	}
}

func TestP401DecodeWithMoreBitsTurned(t *testing.T) {
	o := newOracle()
	d := &die{10}
	for count := 6; count <= 30; count++ {
		for range 100 {
			o.agrees(t, turned(bch.Encode(d.bytes(24)), d.places(count)...))
		}
	}
	// Near to another one by much: up to three bits beside it.
	for range 1000 {
		data := d.bytes(24)
		n := d.of(4)
		w := turned(bch.Encode(data), append(slices.Clone(nine), d.places(n)...)...)
		if !o.agrees(t, w) {
			t.Fatalf("%v is near to a codeword", w)
		}
	}
}

func TestP402CodewordsDifferInNineBits(t *testing.T) {
	d := &die{12}
	for range 2000 {
		data := d.bytes(24)
		w := bch.Encode(data)
		near := slices.Clone(data)
		for range 1 + d.of(3) {
			p := d.of(192)
			near[p/8] ^= 1 << (p % 8)
		}
		if n := apart(w, bch.Encode(near)); n < 9 && !bytes.Equal(near, data) {
			t.Fatalf("%v and %v: only %d bits", data, near, n)
		}
	}
	// Sums of codewords are codewords: so it is enough to look at those near to that of noughts.
	for i := range 192 {
		for j := range i + 1 {
			l := []int{i, j}
			if i == j {
				l = l[:1]
			}
			if n := apart(bch.Encode(turned(make([]byte, 24), l...)), make([]byte, 28)); n < 9 {
				t.Fatalf("data bits %v: only %d ones", l, n)
			}
		}
	}
}

// No two sets of at most three places leave the same, so no codeword has one to six ones.
func TestP402NoTwoWaysToMend(t *testing.T) {
	c := columns(224)
	seen := make(map[uint32]int, 2_000_000)
	for i := range c {
		seen[c[i]]++
		for j := range i {
			seen[c[i]^c[j]]++
			for k := range j {
				seen[c[i]^c[j]^c[k]]++
			}
		}
	}
	if seen[0] != 0 || len(seen) != 224+224*223/2+224*223*222/6 {
		t.Fatalf("%d kinds", len(seen))
	}
	d := &die{13}
	for range 300_000 {
		left := uint32(0)
		l := d.places(4 + d.of(2))
		for _, p := range l {
			left ^= c[p]
		}
		if seen[left] != 0 {
			t.Fatalf("%v leave what three leave", l)
		}
	}
}

// Of some of the places, sets of at most four: so no codeword has one to eight ones, all of them there.
func TestP402NoTwoFoursLeaveTheSame(t *testing.T) {
	c := columns(224)
	some := (&die{14}).places(50)
	seen := map[uint32]int{0: 1}
	sets := 1
	for count := 1; count <= 4; count++ {
		for _, l := range subsets(some, count) {
			left := uint32(0)
			for _, p := range l {
				left ^= c[p]
			}
			seen[left]++
			sets++
		}
	}
	if len(seen) != sets {
		t.Errorf("%d sets leave %d kinds", sets, len(seen))
	}
}

// roomy is b with spare room behind it, and the whole of it.
func roomy(b []byte) (front, whole []byte) {
	whole = append(slices.Clone(b), bytes.Repeat([]byte{0xEE}, 16)...)
	return whole[:len(b)], whole
}

// scribble fills what was answered, its spare room too.
func scribble(answers ...[]byte) {
	for _, a := range answers {
		a = a[:cap(a)]
		for i := range a {
			a[i] ^= 0x5A
		}
	}
}

func TestP2WhatWasHandedInStays(t *testing.T) {
	d := &die{15}
	for _, flips := range []int{0, 1, 2, 3, 4, 5, 9} {
		data, wholeData := roomy(d.bytes(24))
		wasData := slices.Clone(wholeData)
		w, whole := roomy(turned(bch.Encode(data), d.places(flips)...))
		was := slices.Clone(whole)
		got, _, _ := bch.Decode(w)
		scribble(got, bch.Syndromes(w), bch.Encode(data), bch.Encode(w), bch.Syndromes(data))
		if !bytes.Equal(whole, was) || !bytes.Equal(wholeData, wasData) {
			t.Fatalf("%d flips: what was handed in changed", flips)
		}
	}
}

func TestP2AnswersAreNewAndP3TheSame(t *testing.T) {
	d := &die{16}
	for flips := range 4 {
		data := d.bytes(24)
		w := turned(bch.Encode(data), d.places(flips)...)
		for range 2 {
			got, _, _ := bch.Decode(w)
			scribble(got, bch.Syndromes(w), bch.Encode(data), bch.Generator())
			wantData(t, w, data, flips)
			wantSyndromes(t, w)
			if !bytes.Equal(bch.Generator(), plain) || !bytes.Equal(bch.Encode(data)[4:], data) {
				t.Fatal("an answer was kept")
			}
		}
	}
}

// An answer doesn't hang on what was handed in once it is there.
func TestP2WhatWasHandedInIsNotKept(t *testing.T) {
	d := &die{18}
	data := d.bytes(24)
	was := slices.Clone(data)
	w := bch.Encode(data)
	scribble(data)
	if !bytes.Equal(w[4:], was) {
		t.Errorf("Encode keeps its data")
	}
	for _, word := range [][]byte{w, turned(w, 40)} {
		got, _, _ := bch.Decode(word)
		scribble(word)
		if !bytes.Equal(got, was) {
			t.Errorf("Decode keeps its word")
		}
		scribble(word)
	}
}
