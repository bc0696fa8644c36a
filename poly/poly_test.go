package poly_test

import (
	"bytes"
	"math"
	"slices"
	"testing"

	"ramekin/gf"
	"ramekin/poly"
)

// die throws the same numbers in each run.
type die struct{ n uint64 }

func (d *die) of(k int) int {
	d.n = d.n*6364136223846793005 + 1442695040888963407
	return int(d.n>>33) % k
}

// numbers are up to most, many of them noughts, those at the end as well.
func (d *die) numbers(most int) []byte {
	p := make([]byte, d.of(most+1))
	for i := range p {
		p[i] = byte(d.of(256) * d.of(2))
	}
	return p
}

// product is worked out the long way: all bits of one with all of the other, and then what is left of it by the rule.
func product(a, b byte) byte {
	whole := 0
	for j := range 8 {
		for k := range 8 {
			whole ^= int(a>>j&1) * int(b>>k&1) << (j + k)
		}
	}
	for k := 14; k >= 8; k-- {
		if whole>>k&1 == 1 {
			whole ^= 0x11D << (k - 8)
		}
	}
	return byte(whole)
}

func trimmed(p []byte) []byte { return bytes.TrimRight(p, "\x00") }

// number is that of x^k: 0 behind the end.
func number(p []byte, k int) byte {
	if k < 0 || k >= len(p) {
		return 0
	}
	return p[k]
}

// sumOf and productOf work each number of the answer out on its own.
func sumOf(a, b []byte) []byte {
	var sum []byte
	for k := range max(len(a), len(b)) {
		sum = append(sum, number(a, k)^number(b, k))
	}
	return trimmed(sum)
}

func productOf(a, b []byte) []byte {
	var whole []byte
	for k := range len(a) + len(b) {
		x := byte(0)
		for i := range k + 1 {
			x ^= product(number(a, i), number(b, k-i))
		}
		whole = append(whole, x)
	}
	return trimmed(whole)
}

// valueAt adds up the powers of x, each worked out anew.
func valueAt(p []byte, x byte) byte {
	sum := byte(0)
	for k, c := range p {
		for range k {
			c = product(c, x)
		}
		sum ^= c
	}
	return sum
}

// noughts are ways to say 0.
var noughts = [][]byte{nil, {}, {0}, {0, 0, 0, 0, 0}}

// some are polynomials, with and without noughts at their ends.
var some = [][]byte{
	nil, {}, {0}, {0, 0, 0}, {1}, {1, 0}, {255}, {7, 0, 0}, {0, 1}, {0, 0, 9}, {1, 1}, {1, 1, 0, 0}, {0, 2}, {128},
	{3, 0, 5}, {3, 0, 5, 0}, {255, 255, 255}, {1, 2, 3, 4, 5, 6, 7, 8, 9}, {0, 0, 0, 4, 0, 0, 6, 0, 0, 0},
}

func TestP301Trim(t *testing.T) {
	for _, c := range []struct{ p, want []byte }{
		{nil, nil}, {[]byte{}, nil}, {[]byte{0}, nil}, {[]byte{0, 0, 0}, nil},
		{[]byte{5}, []byte{5}}, {[]byte{5, 0}, []byte{5}}, {[]byte{0, 5}, []byte{0, 5}},
		{[]byte{0, 1, 0, 0}, []byte{0, 1}}, {[]byte{1, 0, 0, 2, 0}, []byte{1, 0, 0, 2}}, {[]byte{1, 255}, []byte{1, 255}},
	} {
		if got := poly.Trim(c.p); !bytes.Equal(got, c.want) {
			t.Errorf("Trim(%v): %v, want %v", c.p, got, c.want)
		}
	}
}

func TestP301Add(t *testing.T) {
	for _, c := range []struct{ a, b, want []byte }{
		{nil, nil, nil}, {[]byte{0, 0}, []byte{0}, nil}, {[]byte{1, 2}, nil, []byte{1, 2}}, {[]byte{0}, []byte{1, 2}, []byte{1, 2}},
		{[]byte{1}, []byte{0, 3}, []byte{1, 3}}, {[]byte{1, 2}, []byte{1, 2}, nil}, {[]byte{1, 2, 3}, []byte{4, 2, 3}, []byte{5}},
		{[]byte{1, 0, 0}, []byte{2, 0}, []byte{3}}, {[]byte{0, 0, 0}, []byte{2}, []byte{2}}, {[]byte{255, 128}, []byte{1, 127}, []byte{254, 255}},
	} {
		if got := poly.Add(c.a, c.b); !bytes.Equal(got, c.want) {
			t.Errorf("Add(%v, %v): %v, want %v", c.a, c.b, got, c.want)
		}
	}
}

func TestP301Mul(t *testing.T) {
	for _, c := range []struct{ a, b, want []byte }{
		{[]byte{1, 1}, []byte{1, 1}, []byte{1, 0, 1}}, {[]byte{0, 2}, []byte{128}, []byte{0, 29}},
		{[]byte{1, 0, 0}, []byte{7, 0, 9, 0}, []byte{7, 0, 9}}, {[]byte{2, 3}, []byte{4}, []byte{8, 12}},
		{[]byte{0, 1}, []byte{0, 0, 1}, []byte{0, 0, 0, 1}}, {[]byte{2, 1}, []byte{4, 1}, []byte{8, 6, 1}},
	} {
		if got := poly.Mul(c.a, c.b); !bytes.Equal(got, c.want) {
			t.Errorf("Mul(%v, %v): %v, want %v", c.a, c.b, got, c.want)
		}
	}
	for _, nought := range noughts {
		for _, p := range some {
			if one, other := poly.Mul(nought, p), poly.Mul(p, nought); len(one) != 0 || len(other) != 0 {
				t.Errorf("Mul of %v and %v: %v, %v", nought, p, one, other)
			}
		}
	}
}

func TestP301AddAndMulOfMany(t *testing.T) {
	d := &die{7}
	check := func(a, b []byte) {
		t.Helper()
		if got, want := poly.Add(a, b), sumOf(a, b); !bytes.Equal(got, want) {
			t.Fatalf("Add(%v, %v): %v, want %v", a, b, got, want)
		}
		if got, want := poly.Mul(a, b), productOf(a, b); !bytes.Equal(got, want) {
			t.Fatalf("Mul(%v, %v): %v, want %v", a, b, got, want)
		}
	}
	for _, a := range some {
		for _, b := range some {
			check(a, b)
		}
	}
	for range 300 {
		check(d.numbers(20), d.numbers(20))
	}
}

func TestP301Div(t *testing.T) {
	for _, c := range []struct{ a, b, q, r []byte }{
		{[]byte{1, 0, 1}, []byte{1, 1}, []byte{1, 1}, nil},
		{[]byte{0, 0, 1}, []byte{1, 1}, []byte{1, 1}, []byte{1}},
		{[]byte{0, 0, 1, 0, 0}, []byte{1, 1, 0}, []byte{1, 1}, []byte{1}},
		{[]byte{5, 1, 1}, []byte{1, 1}, []byte{0, 1}, []byte{5}},
		{[]byte{3, 4}, []byte{1, 2, 3}, nil, []byte{3, 4}},
		{[]byte{3, 4, 0, 0, 0}, []byte{1, 2, 3}, nil, []byte{3, 4}},
		{[]byte{1, 2, 3}, []byte{1, 2, 3}, []byte{1}, nil},
		{[]byte{2, 4, 6}, []byte{1, 2, 3, 0}, []byte{2}, nil},
		{[]byte{29, 0, 2}, []byte{2}, []byte{128, 0, 1}, nil},
		{[]byte{29, 0, 2}, []byte{1, 0}, []byte{29, 0, 2}, nil},
		{nil, []byte{1}, nil, nil},
		{[]byte{0, 0, 0}, []byte{0, 1}, nil, nil},
		{[]byte{1, 2, 3, 4}, []byte{0, 0, 1}, []byte{3, 4}, []byte{1, 2}},
		{[]byte{1, 0, 3, 4}, []byte{0, 0, 1}, []byte{3, 4}, []byte{1}},
	} {
		q, r, ok := poly.Div(c.a, c.b)
		if !ok || !bytes.Equal(q, c.q) || !bytes.Equal(r, c.r) {
			t.Errorf("Div(%v, %v): %v, %v, %v, want %v, %v", c.a, c.b, q, r, ok, c.q, c.r)
		}
	}
}

func TestP301DivByNought(t *testing.T) {
	for _, nought := range noughts {
		for _, p := range some {
			if q, r, ok := poly.Div(p, nought); ok || len(q) != 0 || len(r) != 0 {
				t.Errorf("Div(%v, %v): %v, %v, %v", p, nought, q, r, ok)
			}
		}
	}
}

func TestP301Eval(t *testing.T) {
	for _, c := range []struct {
		p       []byte
		x, want byte
	}{
		{nil, 7, 0}, {[]byte{}, 0, 0}, {[]byte{0, 0}, 9, 0}, {[]byte{5}, 7, 5}, {[]byte{5, 9, 200}, 0, 5}, {[]byte{0, 9}, 0, 0},
		{[]byte{1, 1}, 1, 0}, {[]byte{3, 5, 8}, 1, 14}, {[]byte{1, 0, 1}, 2, 5}, {[]byte{1, 0, 1, 0, 0}, 2, 5}, {[]byte{0, 2}, 128, 29}, {[]byte{0, 0, 1}, 16, 29},
	} {
		if got := poly.Eval(c.p, c.x); got != c.want {
			t.Errorf("Eval(%v, %d): %d, want %d", c.p, c.x, got, c.want)
		}
	}
	d := &die{11}
	for range 100 {
		p := d.numbers(12)
		for x := range 256 {
			if got, want := poly.Eval(p, byte(x)), valueAt(p, byte(x)); got != want {
				t.Fatalf("Eval(%v, %d): %d, want %d", p, x, got, want)
			}
		}
	}
}

func TestP301MinimalExample(t *testing.T) {
	for n, want := range map[int][]byte{
		0: {1, 1}, 1: {1, 0, 1, 1, 1, 0, 0, 0, 1}, 85: {1, 1, 1}, 17: {1, 1, 0, 0, 1}, 51: {1, 1, 1, 1, 1}, 119: {1, 0, 0, 1, 1},
	} {
		if got := poly.Minimal(n); !bytes.Equal(got, want) {
			t.Errorf("Minimal(%d): %v, want %v", n, got, want)
		}
	}
}

// root is x + 2^m.
func root(m int) []byte { return []byte{gf.Exp(m), 1} }

// near and its doubles, each once, make the product.
func leastOf(near int) []byte {
	var seen [255]bool
	p := []byte{1}
	for m := near; !seen[m]; m = 2 * m % 255 {
		seen[m] = true
		p = productOf(p, root(m))
	}
	return p
}

func TestP301MinimalOfAll(t *testing.T) {
	for near := range 255 {
		want := leastOf(near)
		for _, n := range []int{near, near + 255, near - 255, near + 255<<40, near - 255<<40} {
			if got := poly.Minimal(n); !bytes.Equal(got, want) {
				t.Fatalf("Minimal(%d): %v, want %v", n, got, want)
			}
		}
	}
}

func TestP301MinimalFarOff(t *testing.T) {
	for _, f := range []struct{ n, near int }{
		{255, 0}, {256, 1}, {510, 0}, {-1, 254}, {-254, 1}, {-255, 0}, {-256, 254}, {-127, 128},
		{math.MaxInt64, 127}, {math.MaxInt64 - 1, 126}, {math.MaxInt64 - 127, 0},
		{math.MinInt64, 127}, {math.MinInt64 + 1, 128}, {math.MinInt64 + 128, 0},
	} {
		if got, want := poly.Minimal(f.n), leastOf(f.near); !bytes.Equal(got, want) {
			t.Errorf("Minimal(%d): %v, want %v", f.n, got, want)
		}
	}
}

func TestP302QuotientTimesDivisorAndTheRest(t *testing.T) {
	d := &die{5}
	check := func(a, b []byte) {
		t.Helper()
		q, r, ok := poly.Div(a, b)
		if divisor := trimmed(b); ok != (len(divisor) > 0) || ok && len(r) >= len(divisor) {
			t.Fatalf("Div(%v, %v): %v, %v, %v", a, b, q, r, ok)
		}
		if !bytes.Equal(q, trimmed(q)) || !bytes.Equal(r, trimmed(r)) {
			t.Fatalf("Div(%v, %v): %v, %v: not trimmed", a, b, q, r)
		}
		if again := sumOf(productOf(q, b), r); ok && !bytes.Equal(again, trimmed(a)) {
			t.Fatalf("Div(%v, %v): %v, %v: that makes %v", a, b, q, r, again)
		}
		if ok && !bytes.Equal(poly.Add(poly.Mul(q, b), r), poly.Trim(a)) {
			t.Fatalf("Div(%v, %v): %v, %v: Mul and Add say otherwise", a, b, q, r)
		}
	}
	for _, a := range some {
		for _, b := range some {
			check(a, b)
		}
	}
	for range 500 {
		check(d.numbers(30), d.numbers(10))
		check(d.numbers(10), d.numbers(30))
	}
}

func TestP302MinimalHasNoughtsAndOnesAlone(t *testing.T) {
	for n := -300; n < 600; n++ {
		p := poly.Minimal(n)
		if slices.Max(p) > 1 || p[len(p)-1] != 1 {
			t.Fatalf("Minimal(%d): %v", n, p)
		}
		if !bytes.Equal(p, poly.Minimal(2*n)) || valueAt(p, gf.Exp(n)) != 0 {
			t.Fatalf("Minimal(%d): %v: not that of its root", n, p)
		}
	}
}

// roomy is p with spare room behind it, and the whole of it.
func roomy(p []byte) (front, whole []byte) {
	whole = append(slices.Clone(p), bytes.Repeat([]byte{0xEE}, 16)...)
	return whole[:len(p)], whole
}

// scribble fills what was answered, its spare room too.
func scribble(answers ...[]byte) {
	for _, a := range answers {
		a = a[:cap(a)]
		for i := range a {
			a[i] = 0x5A
		}
	}
}

func TestP2WhatWasHandedInStays(t *testing.T) {
	for _, x := range some {
		for _, y := range some {
			a, wholeA := roomy(x)
			b, wholeB := roomy(y)
			wasA, wasB := slices.Clone(wholeA), slices.Clone(wholeB)
			scribble(poly.Trim(a), poly.Add(a, b), poly.Mul(a, b), poly.Mul(a, a), poly.Add(b, b))
			q, r, _ := poly.Div(a, b)
			scribble(q, r)
			poly.Eval(a, 3)
			if !bytes.Equal(wholeA, wasA) || !bytes.Equal(wholeB, wasB) {
				t.Fatalf("%v, %v became %v, %v", wasA, wasB, wholeA, wholeB)
			}
		}
	}
}

func TestP2NoTwoAnswersShare(t *testing.T) {
	for _, a := range some {
		for _, b := range some {
			q, r, _ := poly.Div(a, b)
			wasQ, wasR := slices.Clone(q), slices.Clone(r)
			other, rest, _ := poly.Div(a, b)
			scribble(other, rest, r)
			if !bytes.Equal(q, wasQ) {
				t.Fatalf("Div(%v, %v): the quotient became %v", a, b, q)
			}
			_, r, _ = poly.Div(a, b)
			scribble(q, other)
			if !bytes.Equal(r, wasR) {
				t.Fatalf("Div(%v, %v): the rest became %v", a, b, r)
			}
		}
	}
	scribble(poly.Minimal(0), poly.Minimal(1))
	if one, other := poly.Minimal(0), poly.Minimal(1); !bytes.Equal(one, []byte{1, 1}) || !bytes.Equal(other, leastOf(1)) {
		t.Errorf("Minimal changed: %v, %v", one, other)
	}
}
