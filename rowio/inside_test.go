package rowio

import (
	"slices"
	"testing"

	"ramekin/api"
	"ramekin/nand"
)

// done tells which dies' blocks were touched, and answers what is set of them.
type done struct {
	touched [][2]int
	errors  map[int]api.Errno
}

func (d *done) touch(die, block int) api.Errno {
	d.touched = append(d.touched, [2]int{die, block})
	return d.errors[die]
}

func TestInTurnTouchesNothingThatIsNotAskedFor(t *testing.T) {
	blocks := []int{9, 7, 7, -1}
	all := [][2]int{{0, 9}, {1, 7}, {2, 7}, {3, -1}}
	for stop := 1; stop <= len(blocks); stop++ {
		d := &done{}
		told := 0
		for range inTurn(blocks, d.touch) {
			if told++; told == stop {
				break
			}
		}
		if told != stop || !slices.Equal(d.touched, all[:stop]) {
			t.Errorf("left at %d: %d told, %v touched", stop, told, d.touched)
		}
	}
	d := &done{errors: map[int]api.Errno{1: api.ErrArg, 3: api.ErrDead}}
	turns := inTurn(blocks, d.touch)
	if len(d.touched) != 0 {
		t.Errorf("touched ahead: %v", d.touched)
	}
	if got := slices.Collect(turns); !slices.Equal(got, []api.Errno{api.OK, api.ErrArg, api.OK, api.ErrDead}) || !slices.Equal(d.touched, all) {
		t.Errorf("inTurn: %v, %v touched", got, d.touched)
	}
	for range inTurn(nil, d.touch) {
		t.Error("no block has a turn")
	}
}

func TestOnEachEndsAtTheFirstError(t *testing.T) {
	n, _ := nand.New(api.Geometry{Dies: 6, Blocks: 8, Pages: 4}, nil)
	blocks := []int{3, 1, 4, 1, 5, 9}
	for die := range 7 {
		d := &done{errors: map[int]api.Errno{die: api.ErrFull, die + 1: api.ErrDead, die + 2: api.ErrArg}}
		want, touched := api.ErrFull, die+1
		if die == 6 {
			want, touched = api.OK, 6
		}
		if e := onEach(n, blocks, d.touch); e != want || len(d.touched) != touched {
			t.Errorf("an error at die %d: %v, %v touched", die, e, d.touched)
		}
	}
	d := &done{}
	for _, wrong := range [][]int{nil, blocks[:5], append(slices.Clone(blocks), 2)} {
		if e := onEach(n, wrong, d.touch); e != api.ErrArg || len(d.touched) != 0 {
			t.Errorf("of %v: %v, %v touched", wrong, e, d.touched)
		}
	}
}
