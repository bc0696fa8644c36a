package nand_test

import (
	"math"
	"testing"

	"ramekin/api"
	"ramekin/nand"
)

// masks are none, shorter than a page, as long, longer; all bits 0, all 1, and some.
func masks() map[string][]byte {
	d := &dice{11}
	return map[string][]byte{
		"none": nil, "empty": {}, "one byte": {0x0F}, "seven bytes": d.bytes(7), "shorter by one": d.bytes(59), "as long": d.bytes(60),
		"longer by one": d.bytes(61), "twice and more": d.bytes(125),
		"noughts": {0}, "noughts as long": make([]byte, 60), "noughts, longer": make([]byte, 99),
		"ones": {255}, "ones as long": filled(255), "ones, longer": append(filled(255), filled(255)...),
		"the first bit": {1, 0, 0, 0, 0, 0, 0}, "the last bit": append(make([]byte, 59), 128), "behind a page alone": append(make([]byte, 60), 255, 255),
	}
}

func TestP703MasksByHand(t *testing.T) {
	for _, c := range []struct {
		mask            []byte
		first, second   byte // of a torn Program of 60 bytes 0x5A
		erased, erased2 byte // of a torn Erase of them
	}{
		{nil, 255, 255, 0x5A, 0x5A}, {[]byte{0}, 255, 255, 0x5A, 0x5A}, {[]byte{255}, 0x5A, 0x5A, 255, 255},
		{[]byte{0x0F}, 0xFA, 0xFA, 0x5F, 0x5F}, {[]byte{0xF0}, 0x5F, 0x5F, 0xFA, 0xFA}, {[]byte{0, 255}, 255, 0x5A, 0x5A, 255}, {[]byte{255, 0}, 0x5A, 255, 255, 0x5A},
	} {
		n := flash(t, least)
		n.Stop(1, c.mask)
		wantErrno(t, "Program", n.Program(0, 0, 0, filled(0x5A)), api.ErrDead)
		n.Power()
		program(t, n, 0, 0, 1, filled(0x5A))
		n.Stop(1, c.mask)
		b, _ := n.Read(0, 0, 0)
		if b[0] != c.first || b[1] != c.second || b[58] != c.first || b[59] != c.second {
			t.Errorf("mask %v: a torn Program left %v", c.mask, b)
		}
		wantErrno(t, "Erase", n.Erase(0, 0), api.ErrDead)
		n.Power()
		b, _ = n.Read(0, 0, 1)
		if b[0] != c.erased || b[1] != c.erased2 || b[58] != c.erased || b[59] != c.erased2 {
			t.Errorf("mask %v: a torn Erase left %v", c.mask, b)
		}
	}
}

func TestP703ATornProgram(t *testing.T) {
	for name, mask := range masks() {
		for _, g := range []api.Geometry{least, most} {
			for page := range g.Pages {
				d := &dice{uint64(page)}
				n := flash(t, g)
				var want [][]byte
				for ahead := range page {
					want = append(want, d.bytes(60))
					program(t, n, 3, 3, ahead, want[ahead])
				}
				b := d.bytes(60)
				n.Stop(1, mask)
				wantErrno(t, name, n.Program(3, 3, page, b), api.ErrDead)
				if !n.Dead() {
					t.Fatalf("%s: there is power", name)
				}
				wantCounts(t, n, page+1, 0)
				n.Power()
				want = append(want, plainMix(blank(), b, mask))
				for len(want) < g.Pages {
					want = append(want, blank())
				}
				wantPages(t, n, 3, 3, want...)
				if n.Erases(3, 3) != 0 {
					t.Fatalf("%s: it was erased", name)
				}
				wantNext(t, n, 3, 3, page+1)
			}
		}
	}
}

// What was torn stays till the block is erased; the block goes on behind it.
func TestP703BehindATornProgram(t *testing.T) {
	n := flash(t, least)
	program(t, n, 0, 0, 0, filled(1))
	n.Stop(1, []byte{0x0F})
	wantErrno(t, "Program", n.Program(0, 0, 1, filled(0)), api.ErrDead)
	n.Power()
	wantErrno(t, "Program of the torn page", n.Program(0, 0, 1, filled(0)), api.ErrArg)
	program(t, n, 0, 0, 2, filled(2))
	wantPages(t, n, 0, 0, filled(1), filled(0xF0), filled(2), blank())
	erase(t, n, 0, 0)
	wantPages(t, n, 0, 0, blank(), blank(), blank(), blank())
	program(t, n, 0, 0, 0, filled(3))
	program(t, n, 0, 0, 1, filled(4))
	wantPages(t, n, 0, 0, filled(3), filled(4), blank(), blank())
}

func TestP703ATornErase(t *testing.T) {
	for name, mask := range masks() {
		for _, g := range []api.Geometry{least, most} {
			for count := range g.Pages + 1 {
				d := &dice{uint64(count)}
				n := flash(t, g)
				erase(t, n, 4, 6)
				var want [][]byte
				for page := range g.Pages {
					b := blank()
					if page < count {
						b = d.bytes(60)
						program(t, n, 4, 6, page, b)
					}
					want = append(want, plainMix(b, blank(), mask))
				}
				n.Stop(1, mask)
				wantErrno(t, name, n.Erase(4, 6), api.ErrDead)
				if !n.Dead() || n.Erases(4, 6) != 2 || n.Erases(4, 5) != 0 || n.Erases(6, 4) != 0 {
					t.Fatalf("%s: Dead %v, Erases %d", name, n.Dead(), n.Erases(4, 6))
				}
				wantCounts(t, n, count+2, 0)
				n.Power()
				wantPages(t, n, 4, 6, want...)
				wantNext(t, n, 4, 6, count)
			}
		}
	}
}

func TestP703ErasesTornAgainAndAgain(t *testing.T) {
	d := &dice{12}
	n := flash(t, least)
	was := [][]byte{d.bytes(60), d.bytes(60), d.bytes(60)}
	for page, b := range was {
		program(t, n, 1, 1, page, b)
	}
	was = append(was, blank())
	for round := range 6 {
		mask := d.bytes(round)
		n.Stop(1, mask)
		wantErrno(t, "Erase", n.Erase(1, 1), api.ErrDead)
		n.Power()
		for page, b := range was {
			was[page] = plainMix(b, blank(), mask)
		}
		wantPages(t, n, 1, 1, was...)
		if n.Erases(1, 1) != round+1 {
			t.Fatalf("Erases: %d, want %d", n.Erases(1, 1), round+1)
		}
	}
	program(t, n, 1, 1, 3, filled(5))
	wantPages(t, n, 1, 1, was[0], was[1], was[2], filled(5))
	erase(t, n, 1, 1)
	wantPages(t, n, 1, 1, blank(), blank(), blank(), blank())
	program(t, n, 1, 1, 0, filled(6))
	if n.Erases(1, 1) != 7 {
		t.Errorf("Erases: %d", n.Erases(1, 1))
	}
}

// works are so many Programs and Erases of one block that may be, if it was blank.
func works(t *testing.T, n *nand.Nand, count int) {
	t.Helper()
	for k := range count {
		if k%3 == 2 {
			erase(t, n, 5, 5)
		} else {
			program(t, n, 5, 5, k%3, filled(byte(k)))
		}
	}
}

func TestP703StopAtTheKth(t *testing.T) {
	for k := 1; k <= 20; k++ {
		n := flash(t, least)
		works(t, n, 3)
		n.Stop(k, nil)
		works(t, n, k-1)
		if n.Dead() {
			t.Fatalf("Stop(%d): too early", k)
		}
		if k%2 == 0 {
			wantErrno(t, "Program", n.Program(0, 0, 0, filled(1)), api.ErrDead)
		} else {
			wantErrno(t, "Erase", n.Erase(0, 0), api.ErrDead)
		}
		if !n.Dead() {
			t.Fatalf("Stop(%d): there is power", k)
		}
		n.Power()
		erase(t, n, 5, 5)
		works(t, n, 30)
	}
}

func TestP703StopBelow1(t *testing.T) {
	for _, k := range []int{0, -1, -2, math.MinInt64} {
		n := flash(t, least)
		n.Stop(k, []byte{0})
		works(t, n, 30)
		if n.Dead() {
			t.Errorf("Stop(%d): the power went", k)
		}
		// It takes the place of one that was to come.
		n.Stop(2, []byte{0})
		works(t, n, 1)
		n.Stop(k, []byte{0})
		wantErrno(t, "Program", n.Program(5, 5, 1, filled(1)), api.OK)
		erase(t, n, 5, 5)
		works(t, n, 30)
	}
	n := flash(t, least)
	n.Stop(math.MaxInt64, []byte{0})
	works(t, n, 30)
	wantPages(t, n, 5, 5, blank(), blank(), blank(), blank())
}

func TestP703StopSetAgain(t *testing.T) {
	n := flash(t, least)
	n.Stop(1, []byte{0})
	n.Stop(3, []byte{0x0F})
	works(t, n, 2)
	wantErrno(t, "Program", n.Program(0, 0, 0, filled(0)), api.ErrDead)
	n.Power()
	wantPage(t, n, 0, 0, 0, filled(0xF0))
	n.Stop(3, []byte{0})
	program(t, n, 0, 0, 1, filled(1))
	n.Stop(3, []byte{0xF0})
	program(t, n, 0, 0, 2, filled(2))
	program(t, n, 0, 0, 3, filled(3))
	n.Stop(1, nil)
	n.Stop(1, []byte{0xF0})
	wantErrno(t, "Erase", n.Erase(0, 0), api.ErrDead)
	n.Power()
	wantPages(t, n, 0, 0, filled(0xF0), filled(0xF1), filled(0xF2), filled(0xF3))
	n.Stop(5, filled(255))
	n.Stop(1, nil)
	wantErrno(t, "Erase", n.Erase(0, 0), api.ErrDead)
	n.Power()
	wantPages(t, n, 0, 0, filled(0xF0), filled(0xF1), filled(0xF2), filled(0xF3))
}

// Reads, and what is refused, do not bring a Stop nearer.
func TestP703WhatStopDoesNotCount(t *testing.T) {
	n := flash(t, least, [2]int{1, 1})
	n.Stop(2, []byte{255})
	for round := range 2 {
		for range 5 {
			n.Read(0, 0, 0)
			n.Read(0, 0, 9)
			wantErrno(t, "Program", n.Program(0, 0, 2, filled(1)), api.ErrArg)
			wantErrno(t, "Program", n.Program(0, 0, round, nil), api.ErrArg)
			wantErrno(t, "Program", n.Program(1, 1, 0, filled(1)), api.ErrArg)
			wantErrno(t, "Erase", n.Erase(1, 1), api.ErrArg)
			wantErrno(t, "Erase", n.Erase(6, 0), api.ErrArg)
			n.Noise(0, 0, 0, nil)
			n.Erases(0, 0)
		}
		if n.Dead() {
			t.Fatal("the power went too early")
		}
		if round == 0 {
			program(t, n, 0, 0, 0, filled(1))
		}
	}
	wantErrno(t, "Program", n.Program(0, 0, 1, filled(2)), api.ErrDead)
	n.Power()
	wantPages(t, n, 0, 0, filled(1), filled(2), blank(), blank())
}

func TestP703Power(t *testing.T) {
	n := flash(t, least)
	n.Power()
	works(t, n, 30)
	// With a Stop that has not come.
	for k := 1; k < 4; k++ {
		n.Stop(k, []byte{0})
		n.Power()
		works(t, n, 30)
	}
	n.Stop(2, []byte{0})
	program(t, n, 0, 0, 0, filled(1))
	n.Power()
	program(t, n, 0, 0, 1, filled(1))
	program(t, n, 0, 0, 2, filled(1))
	// With one that has: it does not come again.
	n.Stop(1, []byte{0})
	wantErrno(t, "Program", n.Program(0, 0, 3, filled(1)), api.ErrDead)
	for range 3 {
		wantErrno(t, "Program", n.Program(0, 1, 0, filled(1)), api.ErrDead)
	}
	n.Power()
	n.Power()
	if n.Dead() {
		t.Fatal("no power")
	}
	wantPages(t, n, 0, 0, filled(1), filled(1), filled(1), blank())
	wantPage(t, n, 0, 1, 0, blank())
	works(t, n, 30)
}

// A Stop that is set without power is gone when the power comes.
func TestP703StopWithoutPower(t *testing.T) {
	n := flash(t, least)
	n.Stop(1, []byte{0x0F})
	wantErrno(t, "Program", n.Program(0, 0, 0, filled(0)), api.ErrDead)
	n.Stop(1, []byte{255})
	n.Stop(0, nil)
	n.Stop(2, nil)
	if !n.Dead() {
		t.Fatal("Stop brought the power")
	}
	wantErrno(t, "Erase", n.Erase(0, 0), api.ErrDead)
	n.Power()
	wantPage(t, n, 0, 0, 0, filled(0xF0))
	works(t, n, 30)
	if n.Erases(0, 0) != 0 {
		t.Error("it was erased without power")
	}
}

func TestP703NoiseOfPages(t *testing.T) {
	n := flash(t, least)
	l := []int{0, 9, 479}
	wantErrno(t, "Noise", n.Noise(0, 0, 1, l), api.OK)
	wantPage(t, n, 0, 0, 1, plainFlip(blank(), l))
	program(t, n, 0, 0, 0, filled(1))
	program(t, n, 0, 0, 1, filled(0))
	want := filled(0)
	want[0], want[1], want[59] = 1, 2, 128
	wantPage(t, n, 0, 0, 1, want)
	wantPage(t, n, 0, 0, 1, want)
	erase(t, n, 0, 0)
	wantPages(t, n, 0, 0, blank(), plainFlip(blank(), l), blank(), blank())
	program(t, n, 0, 0, 0, filled(1))
	program(t, n, 0, 0, 1, filled(7))
	wantPages(t, n, 0, 0, filled(1), plainFlip(filled(7), l), blank(), blank())
	// It is of that page alone.
	for _, place := range [][3]int{{0, 1, 1}, {1, 0, 1}, {0, 0, 2}, {1, 1, 0}} {
		wantPage(t, n, place[0], place[1], place[2], blank())
	}
	// Set again it takes the place of what was.
	wantErrno(t, "Noise", n.Noise(0, 0, 1, []int{9, 10}), api.OK)
	wantPage(t, n, 0, 0, 1, plainFlip(filled(7), []int{9, 10}))
	wantErrno(t, "Noise", n.Noise(0, 0, 1, nil), api.OK)
	wantPage(t, n, 0, 0, 1, filled(7))
	wantErrno(t, "Noise", n.Noise(0, 0, 1, []int{3}), api.OK)
	wantErrno(t, "Noise", n.Noise(0, 0, 1, []int{}), api.OK)
	wantPage(t, n, 0, 0, 1, filled(7))
}

func TestP703NoiseOfEachBit(t *testing.T) {
	n := flash(t, most)
	b := (&dice{13}).bytes(60)
	program(t, n, 7, 11, 0, b)
	for k := range 480 {
		n.Noise(7, 11, 0, []int{k})
		want := append([]byte(nil), b...)
		want[k/8] ^= 1 << (k % 8)
		wantPage(t, n, 7, 11, 0, want)
		n.Noise(7, 11, 0, []int{k, k})
		wantPage(t, n, 7, 11, 0, b)
		n.Noise(7, 11, 0, []int{k, 3, k, 3, k})
		wantPage(t, n, 7, 11, 0, want)
	}
}

func TestP703NoiseOfBitsThatAreNone(t *testing.T) {
	n := flash(t, least)
	program(t, n, 0, 0, 0, filled(0x33))
	none := []int{-1, -8, -480, 480, 481, 1000, math.MaxInt64, math.MinInt64, 1 << 32}
	for _, k := range none {
		wantErrno(t, "Noise", n.Noise(0, 0, 0, []int{k}), api.OK)
		wantPage(t, n, 0, 0, 0, filled(0x33))
	}
	wantErrno(t, "Noise", n.Noise(0, 0, 0, append([]int{479}, append(none, 0, 0)...)), api.OK)
	wantPage(t, n, 0, 0, 0, plainFlip(filled(0x33), []int{479}))
}

func TestP703NoiseOfAPageThatIsNone(t *testing.T) {
	for _, g := range []api.Geometry{least, most} {
		n := flash(t, g)
		wantNoCount(t, n, func() {
			for _, p := range nones(g) {
				wantErrno(t, "Noise", n.Noise(p[0], p[1], p[2], []int{0}), api.ErrArg)
			}
		})
		wantNothingProgrammed(t, n)
		// What was set stays.
		n.Noise(0, 0, 0, []int{5})
		wantErrno(t, "Noise", n.Noise(0, 0, g.Pages, []int{6}), api.ErrArg)
		wantErrno(t, "Noise", n.Noise(-1, 0, 0, nil), api.ErrArg)
		wantPage(t, n, 0, 0, 0, plainFlip(blank(), []int{5}))
		// Without power it is refused, or set, all the same.
		n.Stop(1, nil)
		wantErrno(t, "Erase", n.Erase(0, 0), api.ErrDead)
		wantNoCount(t, n, func() {
			wantErrno(t, "Noise", n.Noise(0, 0, g.Pages, []int{6}), api.ErrArg)
			wantErrno(t, "Noise", n.Noise(0, 0, g.Pages-1, []int{6}), api.OK)
		})
		n.Power()
		wantPage(t, n, 0, 0, g.Pages-1, plainFlip(blank(), []int{6}))
	}
}

// A page of a bad block is a page: its noise may be set, though nobody reads it.
func TestP703NoiseOfABadBlock(t *testing.T) {
	n := flash(t, least, [2]int{1, 2})
	wantErrno(t, "Noise", n.Noise(1, 2, 3, []int{1}), api.OK)
	wantErrno(t, "Noise", n.Noise(1, 2, 4, []int{1}), api.ErrArg)
	wantCounts(t, n, 0, 0)
	wantNoRead(t, n, 1, 2, 3, api.ErrArg)
}

// Noise is read, not held: what is torn is a mix of what stands there without it.
func TestP703NoiseIsNotHeld(t *testing.T) {
	d := &dice{14}
	n := flash(t, least)
	l := []int{0, 1, 100, 477}
	b := d.bytes(60)
	n.Noise(0, 0, 0, l)
	n.Read(0, 0, 0)
	n.Stop(1, []byte{0xAA})
	wantErrno(t, "Program", n.Program(0, 0, 0, b), api.ErrDead)
	n.Power()
	held := plainMix(blank(), b, []byte{0xAA})
	wantPage(t, n, 0, 0, 0, plainFlip(held, l))
	n.Stop(1, []byte{0x1C, 3})
	wantErrno(t, "Erase", n.Erase(0, 0), api.ErrDead)
	n.Power()
	held = plainMix(held, blank(), []byte{0x1C, 3})
	wantPage(t, n, 0, 0, 0, plainFlip(held, l))
	n.Noise(0, 0, 0, nil)
	wantPage(t, n, 0, 0, 0, held)
}
