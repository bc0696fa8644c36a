package entry_test

import (
	"bytes"
	"testing"

	"ramekin/api"
	"ramekin/entry"
)

// roomy is b with spare room behind it, and the whole of it.
func roomy(b []byte) (front, whole []byte) {
	whole = append(bytes.Clone(b), bytes.Repeat([]byte{0xEE}, 100)...)
	return whole[:len(b)], whole
}

// scribble fills what is handed to it, its spare room too.
func scribble(b []byte) {
	b = b[:cap(b)]
	for i := range b {
		b[i] ^= 0x5A
	}
}

// someLists are bytes of slots that may be, that may not be, too few, too many.
func someLists() [][]byte {
	d := &dice{20}
	all := [][]byte{nil, {}, make([]byte, 48), d.bytes(48), d.bytes(7), d.bytes(200)}
	for _, s := range rightSlots() {
		b := plainBytes(s.h, s.e)
		all = append(all, b, b[:47], append(bytes.Clone(b), 0), with(b, 45, 1), with(b, 11, 9))
	}
	return all
}

func TestP2WhatWasHandedInStays(t *testing.T) {
	for _, b := range someLists() {
		front, whole := roomy(b)
		was := bytes.Clone(whole)
		h, e, err := entry.Parse(front)
		entry.Bytes(h, e)
		if !bytes.Equal(whole, was) {
			t.Fatalf("Parse(%v): what was handed in changed: %v", b, whole)
		}
		wantParse(t, b, h, e, err)
	}
	for _, s := range rightSlots() {
		h, e := s.h, s.e
		scribble(entry.Bytes(h, e))
		if entry.Check(e) != api.OK || h != s.h || e != s.e {
			t.Fatalf("what was handed in changed: %+v, %+v", h, e)
		}
	}
}

// What stands behind the bytes is not of them.
func TestP2SpareRoomIsNotRead(t *testing.T) {
	for _, s := range rightSlots() {
		long := append(plainBytes(s.h, s.e), plainBytes(s.h, s.e)...)
		wantSlot(t, long[:48], s.h, s.e)
		for count := range 48 {
			wantNoSlot(t, long[:count], api.ErrCut)
		}
		wantNoSlot(t, long[:49], api.ErrMore)
	}
}

func TestP2WhatWasHandedInIsNotKept(t *testing.T) {
	for _, s := range rightSlots() {
		b := plainBytes(s.h, s.e)
		h, e, _ := entry.Parse(b)
		scribble(b)
		if h != s.h || e != s.e {
			t.Fatalf("what Parse answered hangs on what was handed in: %+v, %+v", h, e)
		}
	}
}

func TestP2AnswersAreNewMemory(t *testing.T) {
	d := &dice{21}
	for range 200 {
		h, e := d.rightSlot()
		want := plainBytes(h, e)
		one, two := entry.Bytes(h, e), entry.Bytes(h, e)
		scribble(one)
		if !bytes.Equal(two, want) {
			t.Fatalf("two answers share memory: %v", two)
		}
		scribble(two)
		wantBytes(t, h, e, want)
	}
}

func TestP3TheSameCallsAnswerTheSame(t *testing.T) {
	for _, b := range someLists() {
		h, e, err := entry.Parse(b)
		check := entry.Check(e)
		for range 3 {
			wantParse(t, b, h, e, err)
			wantCheck(t, e, check)
		}
	}
	d := &dice{22}
	for range 100 {
		h, e := d.slot()
		once := bytes.Clone(entry.Bytes(h, e))
		for range 3 {
			wantBytes(t, h, e, once)
			scribble(entry.Bytes(h, e)) // the next answer is another one's memory
		}
	}
}
