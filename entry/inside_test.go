package entry

import (
	"bytes"
	"testing"

	"ramekin/api"
	"ramekin/code"
)

// card is another kind of thing than a slot: a layout knows none of its own.
type card struct {
	first, second int
	name          [3]byte
}

func cardLayout() layout[card] {
	return layout[card]{
		several(func(c *card) []byte { return c.name[:] }),
		low(func(c *card) *int { return &c.second }),
		number(func(c *card) *int { return &c.first }),
	}
}

func TestLayoutGoesByItsParts(t *testing.T) {
	c := card{first: -2, second: 300, name: [3]byte{1, 2, 3}}
	want := []byte{99, 1, 2, 3, 44, 254, 255, 255, 255, 255, 255, 255, 255}
	b := cardLayout().write([]byte{99}, c)
	if !bytes.Equal(b, want) {
		t.Errorf("write: %v, want %v", b, want)
	}
	r := code.New(b)
	if r.Byte() != 99 || cardLayout().read(r) != (card{-2, 44, [3]byte{1, 2, 3}}) || r.End() != api.OK {
		t.Errorf("read of %v: another card than was written", b)
	}
	if c != (card{-2, 300, [3]byte{1, 2, 3}}) {
		t.Errorf("write changed what it was handed: %v", c)
	}
}

func TestLayoutWithoutParts(t *testing.T) {
	if b := (layout[card]{}).write([]byte{5}, card{first: 1}); !bytes.Equal(b, []byte{5}) {
		t.Errorf("write: %v", b)
	}
	r := code.New([]byte{5})
	if c := (layout[card](nil)).read(r); c != (card{}) || r.End() != api.ErrMore {
		t.Errorf("read: %v, %v", c, r.End())
	}
}

func TestLayoutOfBytesThatLack(t *testing.T) {
	b := cardLayout().write(nil, card{first: 7, second: 8, name: [3]byte{9, 9, 9}})
	for count := range len(b) {
		r := code.New(b[:count])
		cardLayout().read(r)
		if e := r.End(); e != api.ErrCut {
			t.Errorf("of %d bytes: %v", count, e)
		}
	}
}

// The three layouts of a slot are a payload, and nothing is in two of them.
func TestLayoutsFillAPayload(t *testing.T) {
	head := headLayout().write(nil, api.Head{})
	both := entryLayout().write(head, api.Entry{})
	whole := tailLayout().write(both, tail{})
	if len(head) != 11 || len(both) != 44 || len(whole) != api.Payload {
		t.Errorf("%d, %d, %d bytes", len(head), len(both), len(whole))
	}
}
