package bits_test

import (
	"bytes"
	"slices"
	"testing"

	"ramekin/bits"
)

// roomy is l with spare room behind it, and the whole of it.
func roomy[T any](l []T, spare T) (front, whole []T) {
	whole = append(slices.Clone(l), slices.Repeat([]T{spare}, 16)...)
	return whole[:len(l)], whole
}

// scribble fills what is handed to it, its spare room too.
func scribble[T byte | int](lists ...[]T) {
	for _, l := range lists {
		l = l[:cap(l)]
		for i := range l {
			l[i] ^= 0x5A
		}
	}
}

// given is what the calls are handed, as ordinary lists, as empty ones and as none.
type given struct {
	old, now, mask []byte
	places         []int
}

func allGiven() []given {
	d := &die{20}
	all := []given{{}, {[]byte{}, []byte{}, []byte{}, []int{}}, {mask: []byte{1}, places: []int{0, -1}}}
	for count := range 20 {
		for long := range 4 {
			all = append(all,
				given{d.bytes(count), d.bytes(count), d.bytes(long), []int{0, 3, 3, -1, 8 * count, 8*count - 1}},
				given{d.bytes(count), d.bytes(count), nil, nil},
				given{d.bytes(count), d.bytes(count + 1), d.bytes(long), nil},
				given{d.bytes(count), d.bytes(count), d.bytes(30), []int{5}})
		}
	}
	return all
}

func TestP2WhatWasHandedInStays(t *testing.T) {
	for _, g := range allGiven() {
		old, wholeOld := roomy(g.old, 0xEE)
		now, wholeNow := roomy(g.now, 0xDD)
		mask, wholeMask := roomy(g.mask, 0xCC)
		places, wholePlaces := roomy(g.places, 77)
		was := [][]byte{bytes.Clone(wholeOld), bytes.Clone(wholeNow), bytes.Clone(wholeMask)}
		wasPlaces := slices.Clone(wholePlaces)
		bits.Ones(old)
		scribble(bits.Flip(old, places), bits.Flip(now, nil), bits.Mix(old, now, mask), bits.Mix(old, now, nil), bits.Mix(old, old, old))
		scribble(bits.Apart(old, now), bits.Apart(old, old))
		if !slices.EqualFunc([][]byte{wholeOld, wholeNow, wholeMask}, was, bytes.Equal) || !slices.Equal(wholePlaces, wasPlaces) {
			t.Fatalf("%v: what was handed in changed", g)
		}
	}
}

func TestP2WhatWasHandedInIsNotKept(t *testing.T) {
	for _, g := range allGiven() {
		turned, mixed, plain, apart := bits.Flip(g.old, g.places), bits.Mix(g.old, g.now, g.mask), bits.Mix(g.old, g.now, nil), bits.Apart(g.old, g.now)
		wantTurned, wantMixed, wantPlain, wantApart := slices.Clone(turned), slices.Clone(mixed), slices.Clone(plain), slices.Clone(apart)
		scribble(g.old, g.now, g.mask)
		scribble(g.places)
		if !bytes.Equal(turned, wantTurned) || !bytes.Equal(mixed, wantMixed) || !bytes.Equal(plain, wantPlain) || !slices.Equal(apart, wantApart) {
			t.Fatalf("%v: an answer hangs on what was handed in", g)
		}
	}
}

// One list may be handed in as several at once, or as a piece of another.
func TestP2ListsHandedInMayShareMemory(t *testing.T) {
	long := (&die{21}).bytes(40)
	was := bytes.Clone(long)
	for start := range 20 {
		old, now, mask := long[start:start+9], long[10:19], long[start+3:start+8]
		wantMix(t, old, now, mask, plainMix(old, now, mask))
		wantMix(t, old, old, old, old)
		wantMix(t, old, now, old, plainMix(old, now, old))
		wantMix(t, old, now, now, plainMix(old, now, now))
		wantApart(t, old, now, plainApart(old, now))
		wantApart(t, old, old, nil)
		wantFlip(t, old, bits.Apart(old, now), now)
	}
	if !bytes.Equal(long, was) {
		t.Error("what was handed in changed")
	}
}

func TestP3TheSameCallsAnswerTheSame(t *testing.T) {
	for _, g := range allGiven() {
		turned, mixed, apart := slices.Clone(bits.Flip(g.old, g.places)), slices.Clone(bits.Mix(g.old, g.now, g.mask)), slices.Clone(bits.Apart(g.old, g.now))
		for range 2 {
			a, b, c := bits.Flip(g.old, g.places), bits.Mix(g.old, g.now, g.mask), bits.Apart(g.old, g.now)
			if !bytes.Equal(a, turned) || !bytes.Equal(b, mixed) || !slices.Equal(c, apart) {
				t.Fatalf("%v: %v, %v, %v; once: %v, %v, %v", g, a, b, c, turned, mixed, apart)
			}
			scribble(a, b)
			scribble(c)
		}
	}
}
