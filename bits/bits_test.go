package bits_test

import (
	"bytes"
	"math"
	"slices"
	"testing"

	"ramekin/bits"
)

// The lowest bit of the first byte is bit 0, the highest one of the last byte is the last: written out, not worked out.
var firstAndLast = []struct {
	b     []byte
	place int
}{
	{[]byte{1}, 0}, {[]byte{2}, 1}, {[]byte{4}, 2}, {[]byte{64}, 6}, {[]byte{128}, 7},
	{[]byte{1, 0, 0}, 0}, {[]byte{128, 0, 0}, 7}, {[]byte{0, 1, 0}, 8}, {[]byte{0, 128, 0}, 15}, {[]byte{0, 0, 1}, 16}, {[]byte{0, 0, 128}, 23},
}

func TestP601PlacesByHand(t *testing.T) {
	for _, c := range firstAndLast {
		noughts := make([]byte, len(c.b))
		if n := bits.Ones(c.b); n != 1 {
			t.Errorf("Ones(%v): %d", c.b, n)
		}
		wantFlip(t, noughts, []int{c.place}, c.b)
		wantFlip(t, c.b, []int{c.place}, noughts)
		wantApart(t, noughts, c.b, []int{c.place})
		wantApart(t, c.b, noughts, []int{c.place})
		wantMix(t, noughts, full(len(c.b)), c.b, c.b)
		wantMix(t, noughts, c.b, full(1), c.b)
		wantMix(t, c.b, full(len(c.b)), nil, c.b)
	}
}

func TestP601Ones(t *testing.T) {
	for _, c := range []struct {
		b    []byte
		want int
	}{
		{nil, 0}, {[]byte{}, 0}, {[]byte{0}, 0}, {[]byte{255}, 8}, {[]byte{0, 0, 0}, 0}, {[]byte{255, 255, 255}, 24},
		{[]byte{3, 0, 7}, 5}, {[]byte{0x55, 0xAA}, 8}, {[]byte{127, 254}, 14}, {full(1000), 8000}, {make([]byte, 1000), 0},
	} {
		if got := bits.Ones(c.b); got != c.want {
			t.Errorf("Ones(%v): %d, want %d", c.b, got, c.want)
		}
	}
	for x := range 256 {
		want := 0
		for _, digit := range digits([]byte{byte(x)}) {
			want += digit
		}
		if got := bits.Ones([]byte{byte(x)}); got != want {
			t.Errorf("Ones of %d: %d, want %d", x, got, want)
		}
		if got := bits.Ones([]byte{byte(x), 0, byte(x), 255}); got != 2*want+8 {
			t.Errorf("Ones of %d twice, and of 255: %d", x, got)
		}
	}
}

func TestP601FlipOfEachPlace(t *testing.T) {
	d := &die{1}
	for _, count := range []int{1, 2, 3, 60} {
		for _, b := range [][]byte{make([]byte, count), full(count), d.bytes(count)} {
			wantFlip(t, b, nil, b)
			wantFlip(t, b, []int{}, b)
			for place := range 8 * count {
				once := plainFlip(b, []int{place})
				wantFlip(t, b, []int{place}, once)
				wantFlip(t, b, []int{place, place}, b)
				wantFlip(t, b, []int{place, place, place}, once)
			}
			opposite := packed(plainOpposite(digits(b)))
			wantFlip(t, b, upTo(count), opposite)
			wantFlip(t, b, append(upTo(count), upTo(count)...), b)
			wantFlip(t, opposite, upTo(count), b)
		}
	}
}

func plainOpposite(all []int) []int {
	for place := range all {
		all[place] = 1 - all[place]
	}
	return all
}

func TestP601FlipInAnyOrder(t *testing.T) {
	for _, l := range [][]int{{0, 9, 15}, {15, 9, 0}, {9, 0, 15}, {9, 15, 0}, {0, 9, 9, 9, 15}, {9, 0, 9, 15, 9}, {15, 3, 9, 3, 0}} {
		wantFlip(t, []byte{0, 0}, l, []byte{1, 130})
		wantFlip(t, []byte{255, 255}, l, []byte{254, 125})
	}
	d := &die{2}
	for range 500 {
		b := d.bytes(d.of(6))
		var l []int
		for range d.of(30) {
			l = append(l, d.of(8*len(b)+20)-10)
		}
		want := plainFlip(b, l)
		wantFlip(t, b, l, want)
		slices.Reverse(l)
		wantFlip(t, b, l, want)
		slices.Sort(l)
		wantFlip(t, b, l, want)
	}
}

func TestP601FlipOfNumbersThatAreNoBits(t *testing.T) {
	d := &die{3}
	for count := range 10 {
		b := d.bytes(count)
		end := 8 * count
		none := []int{
			-1, -2, -7, -8, -9, -end - 1, -end - 8, end, end + 1, end + 7, end + 8, end + 256, 2*end + 8,
			1 << 31, 1 << 32, 1<<32 + 1, 1 << 40, -1 << 31, -1 << 32, math.MaxInt64, math.MaxInt64 - 7, math.MinInt64, math.MinInt64 + 1, math.MinInt64 + 8,
		}
		for _, k := range none {
			wantFlip(t, b, []int{k}, b)
			wantFlip(t, b, []int{k, k, k}, b)
		}
		wantFlip(t, b, none, b)
		if count == 0 {
			wantFlip(t, b, []int{0}, nil)
			wantFlip(t, nil, []int{0, 1, 7, 8}, nil)
			continue
		}
		// Those beside them are turned all the same.
		mixed := append(append([]int{0}, none...), end-1)
		wantFlip(t, b, mixed, plainFlip(b, []int{0, end - 1}))
	}
}

func TestP601MixByHand(t *testing.T) {
	for _, c := range []struct{ old, now, mask, want []byte }{
		{nil, nil, nil, nil}, {nil, []byte{}, []byte{1, 2}, nil}, {[]byte{}, nil, []byte{255}, nil},
		{[]byte{1, 2}, []byte{4, 8}, nil, []byte{1, 2}},
		{[]byte{1, 2}, []byte{4, 8}, []byte{}, []byte{1, 2}},
		{[]byte{1, 2}, []byte{4, 8}, []byte{0}, []byte{1, 2}},
		{[]byte{1, 2}, []byte{4, 8}, []byte{255}, []byte{4, 8}},
		{[]byte{1, 2}, []byte{4, 8}, []byte{4}, []byte{5, 2}},
		{[]byte{1, 2}, []byte{4, 8}, []byte{0, 255}, []byte{1, 8}},
		{[]byte{1, 2}, []byte{4, 8}, []byte{255, 0}, []byte{4, 2}},
		{[]byte{1, 2}, []byte{4, 8}, []byte{255, 0, 255, 255}, []byte{4, 2}},
		{[]byte{0, 0, 0, 0, 0}, []byte{255, 255, 255, 255, 255}, []byte{1, 128}, []byte{1, 128, 1, 128, 1}},
		{[]byte{255, 255, 255, 255, 255}, []byte{0, 0, 0, 0, 0}, []byte{1, 2, 4}, []byte{254, 253, 251, 254, 253}},
		{[]byte{0xF0}, []byte{0x3C}, []byte{0x0F}, []byte{0xFC}},
		{[]byte{0xF0}, []byte{0x3C}, []byte{0xF0}, []byte{0x30}},
	} {
		wantMix(t, c.old, c.now, c.mask, c.want)
	}
}

// Each way in which a bit of old, of now and of the mask may stand together.
func TestP601MixOfEachBit(t *testing.T) {
	for place := range 16 {
		for way := range 8 {
			for _, rest := range [][]byte{make([]byte, 2), full(2)} {
				set := func(bit int) []byte {
					all := digits(rest)
					all[place] = bit
					return packed(all)
				}
				old, now, mask := set(way%2), set(way/2%2), set(way/4)
				want := way % 2
				if way/4 == 1 {
					want = way / 2 % 2
				}
				wantMix(t, old, now, mask, set(want))
			}
		}
	}
}

func TestP601MixOfMasksOfAllLengths(t *testing.T) {
	d := &die{4}
	for count := range 14 {
		for long := range 40 {
			old, now, mask := d.bytes(count), d.bytes(count), d.bytes(long)
			wantMix(t, old, now, mask, plainMix(old, now, mask))
			wantMix(t, old, old, mask, old)
			wantMix(t, old, now, make([]byte, long), old)
			if long > 0 {
				wantMix(t, old, now, full(long), now)
				wantMix(t, make([]byte, count), full(count), mask, slices.Repeat(mask, count)[:count])
			}
		}
	}
}

func TestP601MixOfUnlikeLengths(t *testing.T) {
	d := &die{5}
	for one := range 10 {
		for other := range 10 {
			if one == other {
				continue
			}
			for _, mask := range [][]byte{nil, {}, {0}, {255}, d.bytes(one), d.bytes(other), d.bytes(50)} {
				wantMix(t, d.bytes(one), d.bytes(other), mask, nil)
				wantMix(t, make([]byte, one), make([]byte, other), mask, nil)
			}
		}
	}
	wantMix(t, nil, []byte{1}, nil, nil)
	wantMix(t, []byte{1}, nil, nil, nil)
}

func TestP601ApartByHand(t *testing.T) {
	for _, c := range []struct {
		a, b []byte
		want []int
	}{
		{[]byte{1}, []byte{2}, []int{0, 1}}, {[]byte{2}, []byte{1}, []int{0, 1}},
		{nil, nil, nil}, {nil, []byte{}, nil}, {[]byte{0}, []byte{0}, nil}, {[]byte{255}, []byte{255}, nil},
		{[]byte{0}, []byte{255}, []int{0, 1, 2, 3, 4, 5, 6, 7}}, {[]byte{0x55}, []byte{0xAA}, []int{0, 1, 2, 3, 4, 5, 6, 7}},
		{[]byte{1, 0}, []byte{2, 128}, []int{0, 1, 15}}, {[]byte{128, 0, 1}, []byte{0, 0, 0}, []int{7, 16}},
		{[]byte{0, 0, 0}, []byte{129, 129, 129}, []int{0, 7, 8, 15, 16, 23}},
	} {
		wantApart(t, c.a, c.b, c.want)
	}
}

func TestP601ApartOfAnyTwo(t *testing.T) {
	d := &die{6}
	for count := range 70 {
		for range 10 {
			a, b := d.bytes(count), d.bytes(count)
			wantApart(t, a, b, plainApart(a, b))
			wantApart(t, b, a, plainApart(a, b))
			wantApart(t, a, a, nil)
			wantApart(t, a, bytes.Clone(a), nil)
			wantApart(t, a, packed(plainOpposite(digits(a))), upTo(count))
			wantApart(t, make([]byte, count), full(count), upTo(count))
		}
	}
}

func TestP601ApartOfUnlikeLengths(t *testing.T) {
	d := &die{7}
	for one := range 10 {
		for other := range 10 {
			if one == other {
				continue
			}
			wantApart(t, d.bytes(one), d.bytes(other), nil)
			wantApart(t, full(one), make([]byte, other), nil)
			wantApart(t, full(max(one, other))[:one], full(max(one, other))[:other], nil) // one is the other's front
		}
	}
	wantApart(t, nil, []byte{255}, nil)
	wantApart(t, []byte{255}, nil, nil)
}

func TestP602AllPairsOfBytes(t *testing.T) {
	for x := range 256 {
		for y := range 256 {
			a, b := []byte{byte(x)}, []byte{byte(y)}
			l := bits.Apart(a, b)
			if !slices.Equal(l, plainApart(a, b)) {
				t.Fatalf("Apart(%v, %v): %v", a, b, l)
			}
			wantFlip(t, a, l, b)
			wantFlip(t, b, l, a)
		}
	}
}

func TestP602FlipOfApartIsTheOtherOne(t *testing.T) {
	d := &die{8}
	for range 500 {
		count := d.of(70)
		for _, a := range [][]byte{d.bytes(count), make([]byte, count), full(count)} {
			for _, b := range [][]byte{d.bytes(count), bytes.Clone(a), make([]byte, count), full(count)} {
				l := bits.Apart(a, b)
				wantFlip(t, a, l, b)
				wantFlip(t, b, l, a)
				if bits.Ones(bits.Flip(make([]byte, count), l)) != len(l) {
					t.Fatalf("Apart(%v, %v): %v: a place twice, or none", a, b, l)
				}
			}
		}
	}
}

// And the other way round: what was turned an odd number of times is what is apart.
func TestP602ApartOfFlip(t *testing.T) {
	d := &die{9}
	for range 500 {
		b := d.bytes(1 + d.of(8))
		times := make([]int, 8*len(b))
		var l, want []int
		for range d.of(20) {
			k := d.of(len(times))
			l = append(l, k)
			times[k]++
		}
		for k, n := range times {
			if n%2 == 1 {
				want = append(want, k)
			}
		}
		wantApart(t, b, bits.Flip(b, l), want)
	}
	for place := range 24 {
		wantApart(t, make([]byte, 3), single(3, place), []int{place})
	}
}
