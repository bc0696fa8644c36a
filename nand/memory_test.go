package nand_test

import (
	"bytes"
	"slices"
	"testing"

	"ramekin/api"
	"ramekin/nand"
)

// roomy is l with spare room behind it, and the whole of it.
func roomy[T any](l []T, spare T) (front, whole []T) {
	whole = append(slices.Clone(l), slices.Repeat([]T{spare}, 100)...)
	return whole[:len(l)], whole
}

// scribble fills what is handed to it, its spare room too.
func scribble[T byte | int](lists ...[]T) {
	for _, l := range lists {
		l = l[:cap(l)]
		for i := range l {
			l[i] ^= 0x5A
		}
	}
}

func TestP2WhatWasHandedInStays(t *testing.T) {
	d := &dice{20}
	bad, wholeBad := roomy([][2]int{{3, 3}, {0, 0}, {3, 3}}, [2]int{9, 9})
	page, wholePage := roomy(d.bytes(60), 0xEE)
	short, wholeShort := roomy(d.bytes(59), 0xEE)
	mask, wholeMask := roomy(d.bytes(7), 0xDD)
	l, wholeL := roomy([]int{479, 3, 3, -1, 480, 0}, 77)
	wasBad, wasL := slices.Clone(wholeBad), slices.Clone(wholeL)
	was := [][]byte{bytes.Clone(wholePage), bytes.Clone(wholeShort), bytes.Clone(wholeMask)}

	n, _ := nand.New(least, bad)
	wantErrno(t, "Noise", n.Noise(1, 1, 1, l), api.OK)
	program(t, n, 1, 1, 0, page)
	program(t, n, 1, 1, 1, page)
	wantErrno(t, "Program", n.Program(1, 1, 2, short), api.ErrArg)
	for at := range 4 {
		b, _ := n.Read(1, 1, at)
		scribble(b)
	}
	n.Stop(1, mask)
	wantErrno(t, "Program", n.Program(1, 1, 2, page), api.ErrDead)
	n.Power()
	n.Stop(1, mask)
	wantErrno(t, "Erase", n.Erase(1, 1), api.ErrDead)
	n.Power()
	erase(t, n, 1, 1)
	if !slices.Equal(wholeBad, wasBad) || !slices.Equal(wholeL, wasL) || !slices.EqualFunc([][]byte{wholePage, wholeShort, wholeMask}, was, bytes.Equal) {
		t.Error("what was handed in changed")
	}
}

func TestP2WhatWasHandedInIsNotKept(t *testing.T) {
	d := &dice{21}
	bad := [][2]int{{3, 3}}
	n, _ := nand.New(least, bad)
	bad[0] = [2]int{1, 1}
	if !n.IsBad(3, 3) || n.IsBad(1, 1) {
		t.Error("New keeps bad")
	}
	page := d.bytes(60)
	was := bytes.Clone(page)
	program(t, n, 1, 1, 0, page)
	scribble(page)
	wantPage(t, n, 1, 1, 0, was)

	l := []int{5, 6}
	n.Noise(1, 1, 0, l)
	l[0], l[1] = 7, 8
	wantPage(t, n, 1, 1, 0, plainFlip(was, []int{5, 6}))
	n.Noise(1, 1, 0, nil)

	for _, size := range []int{1, 7, 60, 90} {
		mask := d.bytes(size)
		wasMask := bytes.Clone(mask)
		n := flash(t, least)
		n.Stop(2, mask)
		scribble(mask)
		program(t, n, 0, 0, 0, was)
		scribble(mask)
		mask[0]++
		page := bytes.Clone(was)
		wantErrno(t, "Program", n.Program(0, 0, 1, page), api.ErrDead)
		scribble(page, mask)
		n.Power()
		wantPages(t, n, 0, 0, was, plainMix(blank(), was, wasMask))
	}
}

func TestP2AnswersAreNewMemory(t *testing.T) {
	d := &dice{22}
	n := flash(t, least)
	held := [][]byte{d.bytes(60), d.bytes(60), blank(), blank()}
	program(t, n, 0, 0, 0, held[0])
	program(t, n, 0, 0, 1, held[1])
	for _, l := range [][]int{nil, {1, 2, 300}} {
		for page, b := range held {
			n.Noise(0, 0, page, l)
			want := plainFlip(b, l)
			one, _ := n.Read(0, 0, page)
			two, _ := n.Read(0, 0, page)
			scribble(one)
			if !bytes.Equal(two, want) {
				t.Fatalf("page %d: two answers share memory", page)
			}
			wantPages(t, n, 0, 1, blank(), blank(), blank(), blank())
			wantPage(t, n, 0, 0, page, want)
			scribble(two)
			wantPage(t, n, 0, 0, page, want)
		}
	}
	// What was read may be handed in again.
	n.Noise(0, 0, 0, nil)
	n.Noise(0, 0, 2, nil)
	b, _ := n.Read(0, 0, 0)
	program(t, n, 0, 0, 2, b)
	scribble(b)
	wantPage(t, n, 0, 0, 2, held[0])
	wantPage(t, n, 0, 0, 0, held[0])
}

func TestP7TwoSideBySide(t *testing.T) {
	bad := [][2]int{{2, 2}}
	one, two := flash(t, least, bad...), flash(t, least, bad...)
	program(t, one, 0, 0, 0, filled(1))
	one.Noise(0, 0, 1, []int{1})
	erase(t, one, 1, 0)
	one.Read(9, 9, 9)
	one.Stop(1, nil)
	for block := range 2 {
		wantPages(t, two, 0, block, blank(), blank(), blank(), blank())
	}
	wantErrno(t, "Program", two.Program(0, 0, 0, filled(2)), api.OK)
	wantErrno(t, "Program", one.Program(0, 0, 1, filled(3)), api.ErrDead)
	if two.Dead() || two.Erases(1, 0) != 0 || two.Wrong() != 0 {
		t.Error("one's calls are told by the other")
	}
	wantPage(t, two, 0, 0, 0, filled(2))
	two.Power()
	if !one.Dead() {
		t.Error("the power of one came with the other's")
	}
	one.Power()
	wantPages(t, one, 0, 0, filled(1), plainFlip(blank(), []int{1}), blank(), blank())
	wantPages(t, two, 0, 0, filled(2), blank(), blank(), blank())
}
