package code_test

import (
	"bytes"
	"math"
	"math/rand"
	"testing"

	"ramekin/api"
	"ramekin/code"
)

// numbers are ordinary ones, and those at the ends of a byte and of 64 bits, with their eight bytes.
var numbers = []struct {
	v    int
	want []byte
}{
	{0, []byte{0, 0, 0, 0, 0, 0, 0, 0}},
	{1, []byte{1, 0, 0, 0, 0, 0, 0, 0}},
	{255, []byte{255, 0, 0, 0, 0, 0, 0, 0}},
	{256, []byte{0, 1, 0, 0, 0, 0, 0, 0}},
	{0x0807060504030201, []byte{1, 2, 3, 4, 5, 6, 7, 8}},
	{-1, []byte{255, 255, 255, 255, 255, 255, 255, 255}},
	{-2, []byte{254, 255, 255, 255, 255, 255, 255, 255}},
	{-256, []byte{0, 255, 255, 255, 255, 255, 255, 255}},
	{-257, []byte{255, 254, 255, 255, 255, 255, 255, 255}},
	{math.MaxInt64, []byte{255, 255, 255, 255, 255, 255, 255, 127}},
	{math.MinInt64, []byte{0, 0, 0, 0, 0, 0, 0, 128}},
}

func TestP101NumbersAsBytes(t *testing.T) {
	for _, front := range [][]byte{nil, {}, {9}, {0, 255, 7}} {
		for _, n := range numbers {
			want := append(bytes.Clone(front), n.want...)
			if got := code.Int(front, n.v); !bytes.Equal(got, want) {
				t.Errorf("Int(%v, %d): %v, want %v", front, n.v, got, want)
			}
			want = append(bytes.Clone(front), n.want[0])
			if got := code.Byte(front, n.v); !bytes.Equal(got, want) {
				t.Errorf("Byte(%v, %d): %v, want %v", front, n.v, got, want)
			}
		}
	}
}

func TestP101WhatIsHandedInStays(t *testing.T) {
	for name, put := range puts {
		whole := []byte{1, 2, 3, 4, 5, 6, 7, 8, 9, 10, 11, 12}
		before := bytes.Clone(whole)
		put(whole[:2], -3)
		if !bytes.Equal(whole, before) {
			t.Errorf("%s: it or its spare room was changed: %v", name, whole)
		}
	}
}

func TestP101AnswersAreNewMemory(t *testing.T) {
	for name, put := range puts {
		room := append(make([]byte, 0, 64), 1, 2)
		one, two := put(room, 10), put(room, 20)
		keep := bytes.Clone(two)
		clear(one[:cap(one)])
		if !bytes.Equal(two, keep) || !bytes.Equal(room, []byte{1, 2}) {
			t.Errorf("%s: answers share memory: %v, %v", name, two, room)
		}
		longer := put(two, 30)
		clear(two[:cap(two)])
		if !bytes.Equal(longer[:len(keep)], keep) {
			t.Errorf("%s: an answer handed in again is kept: %v", name, longer)
		}
	}
}

var puts = map[string]func([]byte, int) []byte{"Int": code.Int, "Byte": code.Byte}

func TestP102ReadsFromTheFront(t *testing.T) {
	r := code.New([]byte{0, 255, 1, 2, 3, 4, 5, 6, 7, 8, 128})
	if a, b := r.Byte(), r.Byte(); a != 0 || b != 255 {
		t.Errorf("Byte: %d, %d", a, b)
	}
	if v := r.Int(); v != 0x0807060504030201 {
		t.Errorf("Int: %x", v)
	}
	if b := r.Byte(); b != 128 {
		t.Errorf("Byte: %d, not 128: it has no sign", b)
	}
	wantEnd(t, r, api.OK)
}

func TestP102NumbersOfAllKinds(t *testing.T) {
	for _, n := range numbers {
		r := code.New(n.want)
		if v := r.Int(); v != n.v {
			t.Errorf("Int of %v: %d, want %d", n.want, v, n.v)
		}
		wantEnd(t, r, api.OK)
	}
}

func TestP102BytesThatLack(t *testing.T) {
	for size := range 8 {
		r := code.New(bytes.Repeat([]byte{77}, size))
		if v := r.Int(); v != 0 {
			t.Errorf("Int of %d bytes: %d", size, v)
		}
		wantEnd(t, r, api.ErrCut)
		wantNought(t, r)
	}
	for _, none := range [][]byte{nil, {}} {
		r := code.New(none)
		wantEnd(t, r, api.OK)
		if v := r.Byte(); v != 0 {
			t.Errorf("Byte of nothing: %d", v)
		}
		wantEnd(t, r, api.ErrCut)
	}
}

func TestP102BytesLeftOver(t *testing.T) {
	r := code.New([]byte{4, 5, 6})
	wantEnd(t, r, api.ErrMore)
	wantEnd(t, r, api.ErrMore)
	for _, want := range []int{4, 5, 6} {
		wantEnd(t, r, api.ErrMore)
		if v := r.Byte(); v != want {
			t.Errorf("behind End: %d, want %d", v, want)
		}
	}
	wantEnd(t, r, api.OK)
}

func TestP102FirstErrorStays(t *testing.T) {
	r := code.New(make([]byte, 3))
	r.Int()
	r.Fail(api.ErrBad)
	wantEnd(t, r, api.ErrCut)

	r = code.New(nil)
	r.Fail(api.ErrArg)
	r.Fail(api.ErrBad)
	r.Int()
	r.Byte()
	r.Fail(api.OK)
	wantEnd(t, r, api.ErrArg)

	r = code.New([]byte{1})
	wantEnd(t, r, api.ErrMore)
	r.Fail(api.ErrBad)
	wantEnd(t, r, api.ErrBad)
}

func TestP102FailAheadOfBytes(t *testing.T) {
	for _, e := range []api.Errno{api.ErrArg, api.ErrCut, api.ErrMore, api.ErrBad, api.ErrFull, 99, -1} {
		r := code.New(bytes.Repeat([]byte{7}, 20))
		r.Byte()
		r.Fail(e)
		wantNought(t, r)
		wantEnd(t, r, e)
	}
}

func TestP102FailOfOK(t *testing.T) {
	r := code.New([]byte{7, 8})
	r.Fail(api.OK)
	if v := r.Byte(); v != 7 {
		t.Errorf("behind Fail(OK): %d", v)
	}
	wantEnd(t, r, api.ErrMore)
	r.Byte()
	wantEnd(t, r, api.OK)
}

func TestP102BytesAreNotKept(t *testing.T) {
	whole := []byte{1, 2, 3, 4}
	r := code.New(whole[:2])
	clear(whole)
	if a, b := r.Byte(), r.Byte(); a != 1 || b != 2 {
		t.Errorf("what was handed in is kept: %d, %d", a, b)
	}
	wantEnd(t, r, api.OK)

	whole = []byte{1, 2, 3, 4, 5, 6, 7, 8, 9, 10}
	before := bytes.Clone(whole)
	r = code.New(whole[:9])
	r.Int()
	r.Fail(api.ErrBad)
	r.Byte()
	if !bytes.Equal(whole, before) {
		t.Errorf("what was handed in is changed: %v", whole)
	}
}

func TestP102ReadersSideBySide(t *testing.T) {
	b := []byte{1, 2}
	one, two := code.New(b), code.New(b)
	one.Byte()
	one.Fail(api.ErrBad)
	if x, y := two.Byte(), two.Byte(); x != 1 || y != 2 {
		t.Errorf("the second one: %d, %d", x, y)
	}
	wantEnd(t, two, api.OK)
	wantEnd(t, one, api.ErrBad)
}

// P1: a Reader that New did not make has no bytes, and does not panic.
func TestP102ZeroReader(t *testing.T) {
	var r code.Reader
	wantEnd(t, &r, api.OK)
	wantNought(t, &r)
	wantEnd(t, &r, api.ErrCut)
}

func TestP103ReadAsWritten(t *testing.T) {
	source := rand.New(rand.NewSource(1))
	for range 500 {
		var b []byte
		var wants []int
		for range source.Intn(12) {
			v := int(source.Uint64()) >> source.Intn(64)
			if source.Intn(2) == 0 {
				b, wants = code.Byte(b, v), append(wants, -1, v&255)
			} else {
				b, wants = code.Int(b, v), append(wants, 0, v)
			}
		}
		wantBack(t, b, wants)
	}
}

// wantBack: wants are pairs: -1 of a Byte, 0 of an Int; the number.
func wantBack(t *testing.T, b []byte, wants []int) {
	t.Helper()
	r := code.New(b)
	for k := 0; k < len(wants); k += 2 {
		read := r.Int
		if wants[k] < 0 {
			read = r.Byte
		}
		if v := read(); v != wants[k+1] {
			t.Fatalf("read %d, written %d", v, wants[k+1])
		}
	}
	wantEnd(t, r, api.OK)
}

func TestP103EveryFrontIsCut(t *testing.T) {
	b := code.Int(code.Byte(code.Int(nil, -5), 200), 6)
	for size := range len(b) {
		r := code.New(b[:size])
		r.Int()
		r.Byte()
		r.Int()
		wantEnd(t, r, api.ErrCut)
	}
}

func wantEnd(t *testing.T, r *code.Reader, want api.Errno) {
	t.Helper()
	if e := r.End(); e != want {
		t.Errorf("End: %v, want %v", e, want)
	}
}

func wantNought(t *testing.T, r *code.Reader) {
	t.Helper()
	if a, b, c := r.Byte(), r.Int(), r.Byte(); a != 0 || b != 0 || c != 0 {
		t.Errorf("with an error: %d, %d, %d, not noughts", a, b, c)
	}
}
