package nand

import (
	"bytes"

	"ramekin/api"
)

// fuse is a Stop: how many Programs and Erases there are till the power goes, the torn one too (0: it does not go), and which bits of that one get done.
type fuse struct {
	left int
	mask []byte
}

// burn is whether the power goes within the Program or Erase that begins.
func (f *fuse) burn() bool {
	if f.left == 0 {
		return false
	}
	f.left--
	return f.left == 0
}

// Stop lets the power go within the k-th Program or Erase from now on; below 1: within none.
func (n *Nand) Stop(k int, mask []byte) {
	n.stop = fuse{}
	if k < 1 {
		return
	}
	// A mask begins anew with each page, so what it has beyond a page's length never counts.
	n.stop = fuse{left: k, mask: bytes.Clone(mask[:min(len(mask), api.Raw)])}
}

// Power brings it back, and forgets a Stop.
func (n *Nand) Power() { n.dead, n.stop = false, fuse{} }

// Dead is whether the power is gone.
func (n *Nand) Dead() bool { return n.dead }

// work counts a Program or an Erase that nothing forbids: which bits of it get done, and what it answers.
func (n *Nand) work() ([]byte, api.Errno) {
	n.ops++
	if !n.stop.burn() {
		return allOnes(), api.OK
	}
	n.dead = true
	return n.stop.mask, api.ErrDead
}
