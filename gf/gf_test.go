package gf_test

import (
	"math"
	"testing"

	"ramekin/gf"
)

// product is worked out the long way: all bits of one with all of the other, and then what is left of it by the rule.
func product(a, b byte) byte {
	whole := 0
	for j := range 8 {
		for k := range 8 {
			whole ^= int(a>>j&1) * int(b>>k&1) << (j + k)
		}
	}
	for k := 14; k >= 8; k-- {
		if whole>>k&1 == 1 {
			whole ^= 0x11D << (k - 8)
		}
	}
	return byte(whole)
}

// power multiplies n times.
func power(a byte, n int) byte {
	p := byte(1)
	for range n {
		p = product(p, a)
	}
	return p
}

// far are numbers with what they are modulo 255, from 0 on.
var far = []struct{ n, near int }{
	{0, 0}, {1, 1}, {7, 7}, {8, 8}, {254, 254}, {255, 0}, {256, 1}, {509, 254}, {510, 0}, {1000, 235},
	{-1, 254}, {-2, 253}, {-254, 1}, {-255, 0}, {-256, 254}, {-510, 0}, {-511, 254}, {-1000, 20},
	{math.MaxInt64, 127}, {math.MaxInt64 - 1, 126}, {math.MaxInt64 - 127, 0},
	{math.MinInt64, 127}, {math.MinInt64 + 1, 128}, {math.MinInt64 + 128, 0},
}

func TestP201MulExample(t *testing.T) {
	for _, c := range []struct{ a, b, want byte }{
		{2, 128, 29}, {128, 2, 29}, {0, 0, 0}, {0, 255, 0}, {255, 0, 0}, {1, 1, 1}, {1, 255, 255}, {255, 1, 255}, {3, 3, 5}, {128, 128, 19}, {255, 255, 226},
	} {
		if got := gf.Mul(c.a, c.b); got != c.want {
			t.Errorf("Mul(%d, %d): %d, want %d", c.a, c.b, got, c.want)
		}
	}
}

func TestP201MulOfAll(t *testing.T) {
	for a := range 256 {
		for b := range 256 {
			if got, want := gf.Mul(byte(a), byte(b)), product(byte(a), byte(b)); got != want {
				t.Fatalf("Mul(%d, %d): %d, want %d", a, b, got, want)
			}
		}
	}
}

func TestP201Exp(t *testing.T) {
	for n, want := range map[int]byte{0: 1, 1: 2, 7: 128, 8: 29, 9: 58, 254: 142, -1: 142, 255: 1, math.MaxInt64: 204, math.MinInt64: 204} {
		if got := gf.Exp(n); got != want {
			t.Errorf("Exp(%d): %d, want %d", n, got, want)
		}
	}
	want := byte(1)
	for n := range 255 {
		if got := gf.Exp(n); got != want {
			t.Fatalf("Exp(%d): %d, want %d", n, got, want)
		}
		want = product(want, 2)
	}
}

func TestP201ExpFarOff(t *testing.T) {
	for _, f := range far {
		if got, want := gf.Exp(f.n), power(2, f.near); got != want {
			t.Errorf("Exp(%d): %d, want %d", f.n, got, want)
		}
	}
	for n := -1000; n <= 1000; n++ {
		if one, other := gf.Exp(n), gf.Exp(n+255); one != other {
			t.Fatalf("Exp(%d): %d, but 255 further %d", n, one, other)
		}
	}
}

func TestP201Log(t *testing.T) {
	for a, want := range map[byte]int{0: -1, 1: 0, 2: 1, 128: 7, 29: 8, 142: 254} {
		if got := gf.Log(a); got != want {
			t.Errorf("Log(%d): %d, want %d", a, got, want)
		}
	}
	for a := 1; a < 256; a++ {
		n := gf.Log(byte(a))
		if n < 0 || n > 254 || power(2, n) != byte(a) {
			t.Errorf("Log(%d): %d", a, n)
		}
	}
}

func TestP201Inv(t *testing.T) {
	for a, want := range map[byte]byte{0: 0, 1: 1, 2: 142, 142: 2} {
		if got := gf.Inv(a); got != want {
			t.Errorf("Inv(%d): %d, want %d", a, got, want)
		}
	}
	for a := 1; a < 256; a++ {
		if i := gf.Inv(byte(a)); product(byte(a), i) != 1 || product(i, byte(a)) != 1 {
			t.Errorf("Inv(%d): %d", a, i)
		}
	}
}

func TestP201Pow(t *testing.T) {
	for a := range 256 {
		want := byte(1)
		for n := range 520 {
			if got := gf.Pow(byte(a), n); got != want {
				t.Fatalf("Pow(%d, %d): %d, want %d", a, n, got, want)
			}
			want = product(want, byte(a))
		}
	}
}

func TestP201PowBelowNought(t *testing.T) {
	for a := range 256 {
		inv := gf.Inv(byte(a))
		want := inv
		for n := -1; n > -520; n-- {
			if got := gf.Pow(byte(a), n); got != want {
				t.Fatalf("Pow(%d, %d): %d, want %d", a, n, got, want)
			}
			want = product(want, inv)
		}
	}
}

func TestP201PowFarOff(t *testing.T) {
	for _, f := range far {
		for a := 1; a < 256; a++ {
			if got, want := gf.Pow(byte(a), f.n), power(byte(a), f.near); got != want {
				t.Fatalf("Pow(%d, %d): %d, want %d", a, f.n, got, want)
			}
		}
	}
}

// The powers of 0 do not begin anew behind 255 of them: only the one with n 0 itself is 1.
func TestP201PowOfNought(t *testing.T) {
	for _, f := range far {
		want := byte(0)
		if f.n == 0 {
			want = 1
		}
		if got := gf.Pow(0, f.n); got != want {
			t.Errorf("Pow(0, %d): %d, want %d", f.n, got, want)
		}
	}
}

func TestP202EachButNoughtIsAPowerOf2(t *testing.T) {
	var seen [256]int
	for n := range 255 {
		seen[gf.Exp(n)]++
		if back := gf.Log(gf.Exp(n)); back != n {
			t.Errorf("Log of Exp(%d): %d", n, back)
		}
	}
	for a, count := range seen {
		if a == 0 && count != 0 || a > 0 && count != 1 {
			t.Errorf("%d is %d of the powers of 2", a, count)
		}
		if a > 0 && gf.Exp(gf.Log(byte(a))) != byte(a) {
			t.Errorf("Exp of Log(%d): %d", a, gf.Exp(gf.Log(byte(a))))
		}
	}
}

func TestP202RulesOfAField(t *testing.T) {
	for a := range 256 {
		for b := range 256 {
			a, b := byte(a), byte(b)
			ab := gf.Mul(a, b)
			if ab != gf.Mul(b, a) {
				t.Fatalf("%d, %d: the order counts", a, b)
			}
			if (ab == 0) != (a == 0 || b == 0) {
				t.Fatalf("%d, %d: product %d", a, b, ab)
			}
			for c := 1; c < 256; c += 23 {
				c := byte(c)
				if gf.Mul(ab, c) != gf.Mul(a, gf.Mul(b, c)) {
					t.Fatalf("%d, %d, %d: which product is first counts", a, b, c)
				}
				if gf.Mul(a, b^c) != ab^gf.Mul(a, c) {
					t.Fatalf("%d, %d, %d: a sum's product is not its products' sum", a, b, c)
				}
			}
		}
	}
}

func TestP202PowersAdd(t *testing.T) {
	for n := -300; n < 300; n += 7 {
		for m := -300; m < 300; m += 11 {
			if gf.Mul(gf.Exp(n), gf.Exp(m)) != gf.Exp(n+m) || gf.Pow(gf.Exp(n), m) != gf.Exp(n*m) {
				t.Fatalf("powers %d and %d", n, m)
			}
		}
	}
}
