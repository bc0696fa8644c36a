package page_test

import (
	"bytes"
	"testing"

	"ramekin/api"
	"ramekin/page"
)

// roomy is b with spare room behind it, and the whole of it.
func roomy(b []byte) (front, whole []byte) {
	whole = append(bytes.Clone(b), bytes.Repeat([]byte{0xEE}, 100)...)
	return whole[:len(b)], whole
}

// scribble fills what is handed to it, its spare room too.
func scribble(b []byte) {
	b = b[:cap(b)]
	for i := range b {
		b[i] ^= 0x5A
	}
}

// someRaws are pages that are good, bad, blank, and lists that are none.
func someRaws() [][]byte {
	d := &dice{20}
	all := [][]byte{nil, {}, full(60), full(59), make([]byte, 61), d.bytes(60)}
	for _, b := range somePayloads() {
		raw := page.Encode(b)
		all = append(all, raw, raw[:59], turned(raw, d.noise(16, 3, 3)...), turned(raw, d.noise(0, 4, 0)...), turned(raw, d.noise(0, 0, 4)...), turned(raw, d.noise(17, 0, 0)...))
	}
	return all
}

// someBytes are payloads, and lists that are none.
func someBytes() [][]byte {
	return append(somePayloads(), nil, []byte{}, make([]byte, 47), make([]byte, 49), full(60))
}

func TestP2WhatWasHandedInStays(t *testing.T) {
	for _, call := range []struct {
		lists [][]byte
		of    func([]byte) []byte
	}{
		{someBytes(), page.Encode},
		{someRaws(), func(raw []byte) []byte { return page.Decode(raw).B }},
	} {
		for _, b := range call.lists {
			front, whole := roomy(b)
			was := bytes.Clone(whole)
			scribble(call.of(front))
			if !bytes.Equal(whole, was) {
				t.Fatalf("%v: what was handed in changed: %v", b, whole)
			}
		}
	}
}

func TestP2WhatWasHandedInIsNotKept(t *testing.T) {
	for _, b := range someBytes() {
		front, whole := roomy(b)
		raw := page.Encode(front)
		was := bytes.Clone(raw)
		scribble(whole)
		if !bytes.Equal(raw, was) {
			t.Fatalf("Encode(%v) hangs on what was handed in", b)
		}
	}
	for _, raw := range someRaws() {
		front, whole := roomy(raw)
		p := page.Decode(front)
		was := bytes.Clone(p.B)
		scribble(whole)
		if !bytes.Equal(p.B, was) {
			t.Fatalf("Decode(%v) hangs on what was handed in", raw)
		}
	}
}

func TestP3TheSameCallsAnswerTheSame(t *testing.T) {
	for _, b := range someBytes() {
		once := bytes.Clone(page.Encode(b))
		for range 3 {
			raw := page.Encode(b)
			if !bytes.Equal(raw, once) {
				t.Fatalf("Encode(%v): %v, once: %v", b, raw, once)
			}
			scribble(raw) // the next answer is another one's memory
		}
	}
	for _, raw := range someRaws() {
		once := page.Decode(raw)
		want := api.Page{State: once.State, B: bytes.Clone(once.B)}
		for range 3 {
			wantPage(t, raw, want.State, want.B)
			scribble(page.Decode(raw).B)
		}
	}
}
