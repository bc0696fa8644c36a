package rs

import (
	"slices"
	"testing"
)

func TestKeptAreToldAgain(t *testing.T) {
	l := [][]byte{{10}, {11}, {12}, {13}}
	for _, c := range []struct{ lost, want []int }{
		{nil, []int{0, 1, 2, 3}}, {[]int{0}, []int{1, 2, 3}}, {[]int{3, 1}, []int{0, 2}}, {[]int{2, 3}, []int{0, 1}},
	} {
		there := kept(l, c.lost)
		for range 2 {
			var got []int
			for i, row := range there {
				if row[0] != byte(10+i) {
					t.Errorf("row %d: %v", i, row)
				}
				got = append(got, i)
			}
			if !slices.Equal(got, c.want) {
				t.Errorf("without %v: %v", c.lost, got)
			}
		}
	}
	for range kept(l, nil) {
		break
	}
}

// Rows that p has must not have the same share of q, or two of them could not be told apart.
func TestSharesDiffer(t *testing.T) {
	for data := leastData; data <= mostData; data++ {
		s := sums{data: data}
		seen := map[byte]int{}
		for i := range data + 1 {
			inP, inQ := s.shares(i)
			if inP != 1 {
				t.Errorf("of %d: row %d is in p %d times", data, i, inP)
			}
			seen[inQ]++
		}
		if len(seen) != data+1 {
			t.Errorf("of %d: %d shares", data, len(seen))
		}
		if inP, inQ := s.shares(s.second()); inP != 0 || inQ != 1 {
			t.Errorf("of %d: the second parity's shares: %d, %d", data, inP, inQ)
		}
	}
}
