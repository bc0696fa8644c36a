package rowio

import (
	"iter"

	"ramekin/api"
	"ramekin/nand"
)

// onEach does a thing on each die's block, up to the first error; with not one block of each die, on none.
func onEach(n *nand.Nand, blocks []int, do func(die, block int) api.Errno) api.Errno {
	if len(blocks) != n.Geometry().Dies {
		return api.ErrArg
	}
	// Flash is left as it is behind the error: inTurn does nothing that is not asked for.
	for e := range inTurn(blocks, do) {
		if e != api.OK {
			return e
		}
	}
	return api.OK
}

// inTurn tells what each die answers, from the first one on; a die is not touched before its answer is asked for.
func inTurn(blocks []int, do func(die, block int) api.Errno) iter.Seq[api.Errno] {
	return func(yield func(api.Errno) bool) {
		for die, block := range blocks {
			if !yield(do(die, block)) {
				return
			}
		}
	}
}
