package nand

import (
	"bytes"

	"ramekin/api"
	"ramekin/bits"
)

// pageState is a page: its bytes without its noise, and the bits that noise turns.
type pageState struct {
	held  []byte
	noise []int
}

// blockState is a block: its pages from next on are blank.
type blockState struct {
	bad          bool
	pages        shelf[pageState]
	next, erases int
}

// page is nil, if there is none, or no block.
func (b *blockState) page(number int) *pageState {
	if b == nil {
		return nil
	}
	return b.pages.at(number)
}

func blankDies(g api.Geometry) shelf[shelf[blockState]] {
	dies := make(shelf[shelf[blockState]], g.Dies)
	for die := range dies.all() {
		*die = make(shelf[blockState], g.Blocks)
		for block := range die.all() {
			block.pages = blankPages(g.Pages)
		}
	}
	return dies
}

func blankPages(count int) shelf[pageState] {
	pages := make(shelf[pageState], count)
	for page := range pages.all() {
		page.held = allOnes()
	}
	return pages
}

// allOnes is a page that is blank, and as a mask all bits of a page.
func allOnes() []byte { return bytes.Repeat([]byte{255}, api.Raw) }

// turned are the bits of a page that l turns in the end: l itself may be longer than all that a page needs to keep.
func turned(l []int) []int {
	noughts := make([]byte, api.Raw)
	return bits.Apart(noughts, bits.Flip(noughts, l))
}
