package page_test

import (
	"bytes"
	"slices"
	"testing"

	"ramekin/api"
	"ramekin/bch"
	"ramekin/bits"
	"ramekin/page"
)

// The word of a single bit, bit 0 of its data, is the generator itself: its bits are written out.
func TestP801EncodeByHand(t *testing.T) {
	single := append([]byte{0xFD, 0x42, 0x5B, 0xEE, 1}, make([]byte, 23)...)
	noughts := make([]byte, 28)
	marker := make([]byte, 4)
	for _, c := range []struct {
		ones []int
		want []byte
	}{
		{nil, make([]byte, 60)},
		{[]int{0}, slices.Concat(marker, single, noughts)},
		{[]int{192}, slices.Concat(marker, noughts, single)},
		{[]int{0, 192}, slices.Concat(marker, single, single)},
	} {
		b := turned(make([]byte, 48), c.ones...)
		if raw := page.Encode(b); !bytes.Equal(raw, c.want) {
			t.Errorf("Encode(%v): %v, want %v", b, raw, c.want)
		}
		wantGood(t, c.want, b)
	}
}

func TestP801Encode(t *testing.T) {
	d := &dice{1}
	all := somePayloads()
	for range 300 {
		all = append(all, d.bytes(48))
	}
	for place := range 384 {
		all = append(all, turned(make([]byte, 48), place))
	}
	for _, b := range all {
		raw := page.Encode(b)
		if want := slices.Concat([]byte{0, 0, 0, 0}, bch.Encode(b[:24]), bch.Encode(b[24:])); !bytes.Equal(raw, want) {
			t.Fatalf("Encode(%v): %v, want %v", b, raw, want)
		}
		if len(raw) != 60 || !bytes.Equal(raw[8:32], b[:24]) || !bytes.Equal(raw[36:60], b[24:]) {
			t.Fatalf("Encode(%v): %v", b, raw)
		}
		wantGood(t, raw, b)
	}
}

func TestP801EncodeOfOtherLengths(t *testing.T) {
	d := &dice{2}
	counts := []int{1 << 16, 1<<16 + 48, 48 << 10}
	for count := range 200 {
		counts = append(counts, count)
	}
	for _, count := range counts {
		want := 0
		if count == 48 {
			want = 60
		}
		for _, b := range [][]byte{make([]byte, count), d.bytes(count)} {
			if raw := page.Encode(b); len(raw) != want {
				t.Errorf("of %d bytes: %d bytes, want %d", count, len(raw), want)
			}
		}
	}
	if raw := page.Encode(nil); len(raw) != 0 {
		t.Errorf("of nil: %v", raw)
	}
	long := d.bytes(49)
	if len(page.Encode(long[:47])) != 0 || len(page.Encode(long[:48])) != 60 || len(page.Encode(long)) != 0 {
		t.Error("what stands behind the bytes that are handed in counts")
	}
}

func TestP801DecodeOfOtherLengthsIsBad(t *testing.T) {
	d := &dice{3}
	for count := range 200 {
		if count == 60 {
			continue
		}
		wantBad(t, make([]byte, count))
		wantBad(t, full(count))
		wantBad(t, d.bytes(count))
	}
	wantBad(t, nil)
	for _, count := range []int{1 << 16, 60 << 10, 1 << 22} {
		wantBad(t, make([]byte, count))
		wantBad(t, full(count))
	}
	for _, b := range somePayloads() {
		raw := page.Encode(b)
		wantBad(t, raw[:59])
		wantBad(t, raw[1:])
		wantBad(t, append(bytes.Clone(raw), 0))
		wantBad(t, append([]byte{0}, raw...))
		wantBad(t, slices.Concat(raw, raw))
		wantBad(t, raw[:32])
		wantBad(t, b)
	}
}

func TestP801PagesOfOneByte(t *testing.T) {
	wantBlank(t, full(60))
	wantGood(t, make([]byte, 60), make([]byte, 48))
	for x := range 256 {
		raw := bytes.Repeat([]byte{byte(x)}, 60)
		if state := agrees(t, raw); (state == api.Blank) != (marks(raw) > 16) {
			t.Errorf("of %d: %d", x, state)
		}
	}
}

// others are pages of which a word, or both, are too far from any codeword.
func others(b []byte) [][]byte {
	raw := page.Encode(b)
	var all [][]byte
	for _, l := range [][]int{run(firstWord, 4), run(secondWord, 4), run(firstWord+220, 4), run(secondWord+220, 4), run(firstWord+100, 5), run(secondWord+100, 5)} {
		all = append(all, turned(raw, l...))
	}
	return append(all, turned(raw, append(run(firstWord, 4), run(secondWord, 4)...)...))
}

// wantByMarker asks for what the marker alone tells of these pages: good, if they are, or Blank.
func wantByMarker(t *testing.T, b []byte, bad [][]byte, ones []int) {
	t.Helper()
	good := turned(page.Encode(b), ones...)
	if len(ones) > 16 {
		wantBlank(t, good)
	} else {
		wantGood(t, good, b)
	}
	for _, raw := range bad {
		if raw := turned(raw, ones...); len(ones) > 16 {
			wantBlank(t, raw)
		} else {
			wantBad(t, raw)
		}
	}
}

func TestP801MarkerOf16And17Ones(t *testing.T) {
	d := &dice{4}
	b := d.bytes(48)
	bad := others(b)
	for count := range 33 {
		for range 20 {
			wantByMarker(t, b, bad, d.picked(run(0, 32), count))
		}
	}
	// All runs of 16, of 17, round the marker's end too; then each second bit, and one more.
	for start := range 32 {
		for _, count := range []int{15, 16, 17, 18} {
			var ones []int
			for k := range count {
				ones = append(ones, (start+k)%32)
			}
			wantByMarker(t, b, bad, ones)
		}
	}
	for _, b := range somePayloads() {
		var even, odd []int
		for k := range 16 {
			even, odd = append(even, 2*k), append(odd, 2*k+1)
		}
		for k := range 16 {
			wantByMarker(t, b, others(b), even)
			wantByMarker(t, b, others(b), append(slices.Clone(even), odd[k]))
			wantByMarker(t, b, others(b), odd)
			wantByMarker(t, b, others(b), append(slices.Clone(odd), even[k]))
		}
	}
}

// Each of the 32 bits counts, and counts once: it makes the 17th, and its lack leaves 16.
func TestP801EachBitOfTheMarkerCounts(t *testing.T) {
	d := &dice{5}
	b := d.bytes(48)
	raw := page.Encode(b)
	for range 100 {
		l := d.picked(run(0, 32), 32)
		for _, one := range l[16:] {
			wantBlank(t, turned(raw, append(slices.Clone(l[:16]), one)...))
		}
		for at := range 17 {
			wantGood(t, turned(raw, append(slices.Clone(l[:at]), l[at+1:17]...)...), b)
		}
	}
}

// What stands in the words never tells that a page is blank, nor that one is not.
func TestP801WordsOfOnesAndNoughts(t *testing.T) {
	noughts, ones, d := make([]byte, 60), full(60), &dice{6}
	for count := range 33 {
		l := d.picked(run(0, 32), count)
		if count > 16 {
			wantBlank(t, turned(noughts, l...))
			wantBad(t, turned(ones, l...)) // 32 - count are left
		} else {
			wantGood(t, turned(noughts, l...), make([]byte, 48))
		}
	}
	for count := range 16 {
		wantBlank(t, turned(ones, d.noise(count, d.of(40), d.of(40))...))
	}
	wantBad(t, turned(ones, run(0, 16)...))
	wantBlank(t, turned(ones, run(0, 15)...))
}

func TestP801FourAndFiveBitsOfAWord(t *testing.T) {
	d := &dice{7}
	for range 200 {
		b := d.bytes(48)
		raw := page.Encode(b)
		for many := 4; many <= 5; many++ {
			for few := range 4 {
				wantBad(t, turned(raw, d.noise(d.of(17), many, few)...))
				wantBad(t, turned(raw, d.noise(d.of(17), few, many)...))
				wantBlank(t, turned(raw, d.noise(17+d.of(16), many, few)...))
				wantBlank(t, turned(raw, d.noise(17+d.of(16), few, many)...))
			}
			for also := 4; also <= 5; also++ {
				wantBad(t, turned(raw, d.noise(d.of(17), many, also)...))
				wantBlank(t, turned(raw, d.noise(17+d.of(16), many, also)...))
			}
		}
	}
}

// edges are bits at a word's ends and at those of its front four bytes.
var edges = []int{0, 1, 7, 8, 31, 32, 216, 222, 223}

func TestP801FourAndFiveBitsAtTheEdges(t *testing.T) {
	for _, b := range somePayloads() {
		raw := page.Encode(b)
		for count := 4; count <= 5; count++ {
			for _, l := range subsets(edges, count) {
				first, second := moved(l, firstWord), moved(l, secondWord)
				wantBad(t, turned(raw, first...))
				wantBad(t, turned(raw, second...))
				wantBad(t, turned(raw, append(first, second...)...))
				wantBad(t, turned(raw, append(run(16, 16), second...)...))
				wantBlank(t, turned(raw, append(run(0, 17), first...)...))
			}
		}
	}
}

// The marker's last bit, the words' first and last ones: each of them belongs to just one of the three.
func TestP801WhereTheWordsMeet(t *testing.T) {
	d := &dice{8}
	b := d.bytes(48)
	raw := page.Encode(b)
	wantGood(t, turned(raw, 29, 30, 31, 32, 33, 34), b)
	wantBad(t, turned(raw, 29, 30, 31, 32, 33, 34, 35))
	wantGood(t, turned(raw, 253, 254, 255, 256, 257, 258), b)
	wantBad(t, turned(raw, 252, 253, 254, 255, 256, 257))
	wantBad(t, turned(raw, 254, 255, 256, 257, 258, 259))
	wantGood(t, turned(raw, 477, 478, 479), b)
	wantBad(t, turned(raw, 476, 477, 478, 479))
	wantGood(t, turned(raw, run(16, 19)...), b)
	wantBlank(t, turned(raw, run(15, 20)...))
	wantBad(t, turned(raw, run(16, 20)...))
}

// With more bits turned a word may be near to another codeword: then that one's data are told, as bch.Decode tells them.
func TestP801WordsNearToOthers(t *testing.T) {
	nine := []int{0, 8, 59, 128, 155, 179, 185, 188, 203}
	for _, b := range somePayloads() {
		raw := page.Encode(b)
		one, two := turned(raw, moved(nine, firstWord)...), turned(raw, moved(nine, secondWord)...)
		for count := 6; count <= 9; count++ {
			for _, l := range subsets(nine, count) {
				wantGood(t, turned(raw, moved(l, firstWord)...), slices.Concat(one[8:32], b[24:]))
				wantGood(t, turned(raw, moved(l, secondWord)...), slices.Concat(b[:24], two[36:]))
			}
		}
	}
}

func TestP801AnyPages(t *testing.T) {
	d := &dice{9}
	for range 3000 {
		agrees(t, d.bytes(60))
		agrees(t, append(make([]byte, 4), d.bytes(56)...))
		raw := page.Encode(d.bytes(48))
		agrees(t, append(raw[:32], d.bytes(28)...))
		raw = page.Encode(d.bytes(48))
		agrees(t, slices.Concat(raw[:4], d.bytes(28), raw[32:]))
		agrees(t, append(d.bytes(4), raw[4:]...))
	}
	seen := map[int]int{}
	for range 5000 {
		raw := page.Encode(d.bytes(48))
		seen[agrees(t, turned(raw, d.noise(d.of(33), d.of(10), d.of(10))...))]++
	}
	for _, state := range []int{api.Blank, api.Bad, api.Good} {
		if seen[state] < 100 {
			t.Errorf("only %d pages of state %d", seen[state], state)
		}
	}
}

// A Program that is torn leaves a page of which some bits are still 1.
func TestP801PagesMixedWith255s(t *testing.T) {
	d := &dice{10}
	for _, b := range append(somePayloads(), d.bytes(48), d.bytes(48)) {
		raw := page.Encode(b)
		mix := func(mask []byte) []byte { return bits.Mix(full(60), raw, mask) }
		marker, words := append(full(4), make([]byte, 56)...), append(make([]byte, 4), full(56)...)
		wantBlank(t, mix(nil))
		wantBlank(t, mix([]byte{0}))
		wantBlank(t, mix(make([]byte, 60)))
		wantGood(t, mix([]byte{255}), b)
		wantGood(t, mix(full(60)), b)
		wantBlank(t, mix(words))
		agrees(t, mix(marker))
		for range 20 {
			l := d.picked(run(0, 32), 32)
			wantGood(t, mix(turned(words, l[:16]...)), b)
			wantBlank(t, mix(turned(words, l[:15]...)))
		}
		for range 200 {
			agrees(t, mix(d.bytes(1+d.of(60))))
			agrees(t, mix(append(full(4), d.bytes(56)...)))
			agrees(t, mix(turned(full(60), d.picked(run(32, 448), d.of(20))...)))
		}
	}
}

// Of noughts each bit that a mask leaves out is a wrong one.
func TestP801NoughtsMixedWith255s(t *testing.T) {
	d := &dice{11}
	for marks := range 33 {
		for first := range 6 {
			for second := range 6 {
				raw := bits.Mix(full(60), make([]byte, 60), turned(full(60), d.noise(marks, first, second)...))
				switch {
				case marks > 16:
					wantBlank(t, raw)
				case first > 3 || second > 3:
					wantBad(t, raw)
				default:
					wantGood(t, raw, make([]byte, 48))
				}
			}
		}
	}
}

func TestP802EachBitTurned(t *testing.T) {
	for _, b := range somePayloads() {
		raw := page.Encode(b)
		wantGood(t, raw, b)
		for place := range 480 {
			wantGood(t, turned(raw, place), b)
		}
	}
}

func TestP802UpTo3BitsOfEachWordAnd16OfTheMarker(t *testing.T) {
	d := &dice{12}
	for marks := range 17 {
		for first := range 4 {
			for second := range 4 {
				for range 30 {
					b := d.bytes(48)
					wantGood(t, turned(page.Encode(b), d.noise(marks, first, second)...), b)
				}
			}
		}
	}
}

func TestP802BitsAtTheEdges(t *testing.T) {
	for _, b := range somePayloads() {
		raw := page.Encode(b)
		for _, l := range subsets(edges, 3) {
			first, second := moved(l, firstWord), moved(l, secondWord)
			wantGood(t, turned(raw, first...), b)
			wantGood(t, turned(raw, second...), b)
			both := append(first, second...)
			wantGood(t, turned(raw, both...), b)
			wantGood(t, turned(raw, append(both, run(0, 16)...)...), b)
			wantGood(t, turned(raw, append(both, run(16, 16)...)...), b)
		}
	}
}

// T3: with no more than 5 bits of each word turned, and none of the marker, a page is read as it was, or not at all.
func TestP802NeverOtherBytes(t *testing.T) {
	d := &dice{13}
	for first := range 6 {
		for second := range 6 {
			for range 200 {
				b := d.bytes(48)
				raw := turned(page.Encode(b), d.noise(0, first, second)...)
				if first <= 3 && second <= 3 {
					wantGood(t, raw, b)
				} else {
					wantBad(t, raw)
				}
			}
		}
	}
}
