package rs_test

import (
	"bytes"
	"math"
	"slices"
	"testing"

	"ramekin/gf"
	"ramekin/rs"
)

func TestP501ParityExample(t *testing.T) {
	for _, c := range []struct {
		l    [][]byte
		p, q []byte
	}{
		{[][]byte{{1}, {2}}, []byte{3}, []byte{5}},
		{[][]byte{{2}, {1}}, []byte{3}, []byte{0}},
		{[][]byte{{0}, {0}}, []byte{0}, []byte{0}},
		{[][]byte{{7}, {7}}, []byte{0}, []byte{9}},
		{[][]byte{{0, 255}, {128, 0}}, []byte{128, 255}, []byte{29, 255}},
		{[][]byte{{1, 0, 0}, {0, 1, 0}, {0, 0, 1}}, []byte{1, 1, 1}, []byte{1, 2, 4}},
	} {
		if p, q := rs.Parity(c.l); !bytes.Equal(p, c.p) || !bytes.Equal(q, c.q) {
			t.Errorf("Parity(%v): %v, %v, want %v, %v", c.l, p, q, c.p, c.q)
		}
	}
}

// Each row alone is in the first parity as it is, and in the second one times its power of 2.
func TestP501ParityOfASingleRow(t *testing.T) {
	every := make([]byte, 256)
	for x := range every {
		every[x] = byte(x)
	}
	for i, power := range powers {
		if power != gf.Exp(i) {
			t.Fatalf("Exp(%d): %d, want %d", i, gf.Exp(i), power)
		}
		l := slices.Repeat([][]byte{make([]byte, 256)}, 14)
		l[i] = every
		p, q := rs.Parity(l)
		if !bytes.Equal(p, every) {
			t.Errorf("row %d: p is %v", i, p)
		}
		for x, got := range q {
			if want := product(power, byte(x)); got != want {
				t.Errorf("row %d: of %d q has %d, want %d", i, x, got, want)
			}
		}
	}
}

func TestP501ParityOfAnyRows(t *testing.T) {
	d := &die{1}
	for n := 2; n <= 14; n++ {
		for _, size := range []int{1, 2, 3, 16, 48, 257} {
			l := d.rows(n, size)
			wantP, wantQ := plainParity(l)
			if p, q := rs.Parity(l); !bytes.Equal(p, wantP) || !bytes.Equal(q, wantQ) {
				t.Fatalf("Parity(%v): %v, %v, want %v, %v", l, p, q, wantP, wantQ)
			}
		}
	}
}

func TestP501ParityOfOtherCounts(t *testing.T) {
	d := &die{2}
	wantNoParity(t, nil)
	wantNoParity(t, [][]byte{})
	for _, n := range []int{0, 1, 15, 16, 17, 255, 256, 257, 1000} {
		for _, size := range []int{0, 1, 5} {
			wantNoParity(t, d.rows(n, size))
		}
	}
}

func TestP501ParityOfUnlikeRows(t *testing.T) {
	d := &die{3}
	for n := 2; n <= 14; n++ {
		for i := range n {
			for _, size := range []int{0, 1, 3, 5, 100} {
				wantNoParity(t, with(d.rows(n, 4), d.bytes(size), i))
			}
			wantNoParity(t, with(d.rows(n, 0), d.bytes(1), i))
		}
	}
}

// Rows of no bytes are rows, too: their parities are of no bytes, and right.
func TestP501RowsOfNoBytes(t *testing.T) {
	for n := 2; n <= 14; n++ {
		data := make([][]byte, n)
		data[1] = []byte{}
		wantNoParity(t, data)
		l := append(data, nil, []byte{})
		if !rs.Check(l) {
			t.Errorf("Check of %d rows of no bytes", n+2)
		}
		wantRows(t, l, nil, l)
		for _, lost := range losses(n + 2) {
			wantRows(t, l, lost, l)
			wantRows(t, with(l, []byte{1, 2, 3}, lost...), lost, l)
		}
	}
}

func TestP501Check(t *testing.T) {
	d := &die{4}
	for n := 2; n <= 14; n++ {
		for _, size := range []int{1, 2, 7, 48} {
			l := d.whole(n, size)
			if !rs.Check(l) {
				t.Fatalf("Check(%v)", l)
			}
			for i := range l {
				for _, k := range []int{0, size / 2, size - 1} {
					wrong := copied(l)
					wrong[i][k] ^= 1 << d.of(8)
					if rs.Check(wrong) {
						t.Fatalf("Check(%v), with byte %d of row %d wrong", wrong, k, i)
					}
				}
			}
		}
	}
}

// Two rows wrong by the same bytes leave the first parity right; the second one tells it. And the other way round.
func TestP501CheckNeedsBothParities(t *testing.T) {
	d := &die{5}
	for n := 2; n <= 14; n++ {
		l := d.whole(n, 3)
		for i := range n {
			for j := range i {
				onlyQ, onlyP := copied(l), copied(l)
				x := byte(1 + d.of(255))
				onlyQ[i][1] ^= x
				onlyQ[j][1] ^= x
				onlyP[i][1] ^= product(powers[j], x)
				onlyP[j][1] ^= product(powers[i], x)
				if rs.Check(onlyQ) || rs.Check(onlyP) {
					t.Fatalf("Check of %d rows, %d and %d of them wrong", n+2, i, j)
				}
			}
		}
		swapped := copied(l)
		swapped[n], swapped[n+1] = swapped[n+1], swapped[n]
		if rs.Check(swapped) {
			t.Errorf("Check of %d rows, the parities swapped", n+2)
		}
	}
}

func TestP501CheckOfAnyRows(t *testing.T) {
	d := &die{6}
	for range 3000 {
		l := d.rows(4+d.of(13), 1)
		for i := range l {
			l[i][0] &= byte(d.of(4)) // small numbers, so that some are right
		}
		if got, want := rs.Check(l), plainCheck(l); got != want {
			t.Fatalf("Check(%v): %v", l, got)
		}
	}
}

// Noughts add up to noughts, of however many rows: so it is their count alone that is refused.
func TestP501CheckAndFixOfOtherCounts(t *testing.T) {
	for _, size := range []int{0, 1, 4} {
		for n := range 40 {
			l := slices.Repeat([][]byte{make([]byte, size)}, n)
			may := n >= 4 && n <= 16
			if got := rs.Check(l); got != may {
				t.Errorf("Check of %d rows: %v", n, got)
			}
			for _, lost := range append(losses(n), nil) {
				if may {
					wantRows(t, l, lost, l)
				} else {
					wantNoRows(t, l, lost...)
				}
			}
		}
	}
	if rs.Check(nil) {
		t.Error("Check of nothing")
	}
	wantNoRows(t, nil)
	wantNoRows(t, nil, 0)
	wantNoRows(t, [][]byte{}, 0, 1)
	// Single rows whose "parities" would be right.
	if rs.Check([][]byte{{5}, {5}, {5}}) {
		t.Error("Check of three rows")
	}
}

func TestP501CheckOfUnlikeRows(t *testing.T) {
	for n := 4; n <= 16; n++ {
		for _, size := range []int{0, 1, 3} {
			for _, other := range []int{0, 1, 2, 4} {
				if other == size {
					continue
				}
				for i := range n {
					for j := range i + 1 {
						l := slices.Repeat([][]byte{make([]byte, size)}, n)
						if rs.Check(with(l, make([]byte, other), i, j)) {
							t.Fatalf("Check of %d rows of %d bytes, but %d and %d of %d", n, size, i, j, other)
						}
					}
				}
			}
		}
	}
}

func TestP502AnyLossIsMadeAgain(t *testing.T) {
	d := &die{7}
	for n := 2; n <= 14; n++ {
		for _, size := range []int{1, 5, 48} {
			l := d.whole(n, size)
			for _, lost := range losses(n + 2) {
				wantRows(t, l, lost, l)
				// What stands in a lost row's place does not count: its bytes, and how many they are.
				for _, row := range [][]byte{nil, {}, d.bytes(size), make([]byte, size), d.bytes(size - 1), d.bytes(size + 1), d.bytes(300)} {
					wantRows(t, with(l, row, lost...), lost, l)
				}
				mixed := with(with(l, nil, lost[0]), d.bytes(size+3), lost[1:]...)
				wantRows(t, mixed, lost, l)
			}
		}
	}
}

func TestP502AllBytes(t *testing.T) {
	d := &die{8}
	l := d.rows(14, 256)
	for i := range l {
		for x := range 256 {
			l[i][x] = byte(x*(i+1) + i) // each byte in each row, with any beside it
		}
	}
	p, q := rs.Parity(l)
	l = append(l, p, q)
	for _, lost := range losses(16) {
		wantRows(t, with(l, nil, lost...), lost, l)
	}
}

// Two rows are made so that Check is true, whatever the others say: there is one way to do that.
func TestP501FixOfTwoFindsTheOnlyWay(t *testing.T) {
	d := &die{9}
	for _, n := range []int{4, 6, 16} {
		for range 6 {
			i, j := d.of(n), d.of(n)
			if i == j {
				continue
			}
			l := d.rows(n, 1)
			out, ok := rs.Fix(l, []int{i, j})
			if !ok || !plainCheck(out) {
				t.Fatalf("Fix(%v, %d and %d): %v, %v", l, i, j, out, ok)
			}
			ways := 0
			try := copied(l)
			for pair := range 1 << 16 {
				try[i][0], try[j][0] = byte(pair), byte(pair>>8)
				if plainCheck(try) {
					ways++
					wantRows(t, l, []int{i, j}, try)
				}
			}
			if ways != 1 {
				t.Fatalf("%v, %d and %d lost: %d ways", l, i, j, ways)
			}
		}
	}
}

func TestP501FixOfTwoOfAnyRows(t *testing.T) {
	d := &die{10}
	for n := 4; n <= 16; n++ {
		for _, lost := range losses(n) {
			if len(lost) != 2 {
				continue
			}
			l := d.rows(n, 4)
			out, ok := rs.Fix(l, lost)
			if !ok || len(out) != n || !plainCheck(out) || !rs.Check(out) {
				t.Fatalf("Fix(%v, %v): %v, %v", l, lost, out, ok)
			}
			for i, row := range out {
				if !slices.Contains(lost, i) && !bytes.Equal(row, l[i]) {
					t.Fatalf("Fix(%v, %v): row %d is %v", l, lost, i, row)
				}
			}
		}
	}
}

func TestP501FixOfNoneLeavesAllAsItIs(t *testing.T) {
	d := &die{11}
	for n := 4; n <= 16; n++ {
		for _, l := range [][][]byte{d.whole(n-2, 6), d.rows(n, 6), d.rows(n, 1)} {
			wantRows(t, l, nil, l)
			wantRows(t, l, []int{}, l)
		}
	}
}

// A single row of the data hangs on the first parity alone, and the second one stays, right or not.
func TestP501FixOfOneOfTheData(t *testing.T) {
	d := &die{12}
	for n := 4; n <= 16; n++ {
		l := d.rows(n, 6)
		for lost := range n - 2 {
			want := copied(l)
			clear(want[lost])
			rest, _ := plainParity(want[:n-2])
			for k := range rest {
				want[lost][k] = rest[k] ^ l[n-2][k]
			}
			wantRows(t, l, []int{lost}, want)
			if p, _ := plainParity(want[:n-2]); !bytes.Equal(p, l[n-2]) {
				t.Fatalf("the test's own row: %v", want)
			}
		}
	}
}

// A single parity hangs on the data alone, and the other one stays, right or not.
func TestP501FixOfOneParity(t *testing.T) {
	d := &die{13}
	for n := 4; n <= 16; n++ {
		l := d.rows(n, 6)
		p, q := plainParity(l[:n-2])
		wantRows(t, l, []int{n - 2}, with(l, p, n-2))
		wantRows(t, l, []int{n - 1}, with(l, q, n-1))
	}
}

func TestP501FixByHand(t *testing.T) {
	l := [][]byte{{1}, {2}, {3}, {5}}
	for _, lost := range losses(4) {
		wantRows(t, with(l, []byte{9, 9}, lost...), lost, l)
	}
	wrong := [][]byte{{1}, {2}, {8}, {9}}
	wantRows(t, wrong, nil, wrong)
	wantRows(t, wrong, []int{0}, [][]byte{{10}, {2}, {8}, {9}})
	wantRows(t, wrong, []int{1}, [][]byte{{1}, {9}, {8}, {9}})
	wantRows(t, wrong, []int{2}, [][]byte{{1}, {2}, {3}, {9}})
	wantRows(t, wrong, []int{3}, [][]byte{{1}, {2}, {8}, {5}})
	wantRows(t, wrong, []int{0, 2}, [][]byte{{13}, {2}, {15}, {9}})
	wantRows(t, wrong, []int{1, 2}, [][]byte{{1}, {4}, {5}, {9}})
	wantRows(t, wrong, []int{0, 3}, [][]byte{{10}, {2}, {8}, {14}})
	wantRows(t, wrong, []int{3, 1}, [][]byte{{1}, {9}, {8}, {19}})
	wantRows(t, wrong, []int{2, 3}, l)
}

func TestP501FixRefusesWhatIsNoLoss(t *testing.T) {
	d := &die{14}
	for n := 4; n <= 16; n++ {
		l := d.whole(n-2, 3)
		for i := range n {
			wantNoRows(t, l, i, i)
			wantNoRows(t, l, i, i, i)
			wantNoRows(t, l, i, (i+1)%n, (i+2)%n)
			wantNoRows(t, l, i, (i+1)%n, i)
			for _, none := range []int{-1, -2, -n, n, n + 1, n + 256, 2 * n, math.MinInt64, math.MaxInt64} {
				wantNoRows(t, l, none)
				wantNoRows(t, l, none, none)
				wantNoRows(t, l, i, none)
				wantNoRows(t, l, none, i)
				wantNoRows(t, l, none, i, (i+1)%n)
			}
		}
		wantNoRows(t, l, make([]int, 1000)...)
	}
}

func TestP501FixRefusesUnlikeRows(t *testing.T) {
	d := &die{15}
	for n := 4; n <= 16; n++ {
		l := d.whole(n-2, 3)
		for odd := range n {
			for _, row := range [][]byte{nil, {1}, {1, 2}, {1, 2, 3, 4}} {
				unlike := with(l, row, odd)
				wantNoRows(t, unlike)
				for _, lost := range losses(n) {
					if slices.Contains(lost, odd) {
						wantRows(t, unlike, lost, l)
					} else {
						wantNoRows(t, unlike, lost...)
					}
				}
			}
		}
	}
	// Of four rows two lost leave two: they must be alike, whatever the lost ones are.
	wantNoRows(t, [][]byte{{1}, {2, 2}, {1}, {5}}, 0, 2)
	wantNoRows(t, [][]byte{{1}, {2}, {3}, {}}, 0, 2)
	wantRows(t, [][]byte{{1}, {2, 2}, {3}, {5, 5}}, []int{0, 2}, [][]byte{{1, 1}, {2, 2}, {3, 3}, {5, 5}})
	wantRows(t, [][]byte{{1}, {2, 2}, {3}, {}}, []int{1, 3}, [][]byte{{1}, {2}, {3}, {5}})
}
