package nand_test

import (
	"bytes"
	"slices"
	"testing"

	"ramekin/api"
	"ramekin/nand"
)

// model is flash as the document says it, by maps of what befell it.
type model struct {
	g          api.Geometry
	bad        map[[2]int]bool
	pages      map[[3]int][]byte
	noise      map[[3]int][]int
	next       map[[2]int]int
	erases     map[[2]int]int
	till       int
	mask       []byte
	dead       bool
	ops, wrong int
}

func modelOf(g api.Geometry, bad [][2]int) *model {
	m := &model{g: g, bad: map[[2]int]bool{}, pages: map[[3]int][]byte{}, noise: map[[3]int][]int{}, next: map[[2]int]int{}, erases: map[[2]int]int{}}
	for _, place := range bad {
		m.bad[place] = true
	}
	return m
}

func (m *model) isBlock(die, block int) bool {
	return die >= 0 && die < m.g.Dies && block >= 0 && block < m.g.Blocks
}

func (m *model) isPage(die, block, page int) bool {
	return m.isBlock(die, block) && page >= 0 && page < m.g.Pages
}

func (m *model) bytesOf(die, block, page int) []byte {
	if b := m.pages[[3]int{die, block, page}]; b != nil {
		return b
	}
	return blank()
}

// answer is what a call answers if nothing but its arguments is against it.
func (m *model) answer(right bool) api.Errno {
	switch {
	case m.dead:
		return api.ErrDead
	case !right:
		m.wrong++
		return api.ErrArg
	}
	m.ops++
	return api.OK
}

func (m *model) torn() bool {
	if m.till > 0 {
		m.till--
		m.dead = m.till == 0
	}
	return m.dead
}

func (m *model) read(die, block, page int) ([]byte, api.Errno) {
	if e := m.answer(m.isPage(die, block, page) && !m.bad[[2]int{die, block}]); e != api.OK {
		return nil, e
	}
	return plainFlip(m.bytesOf(die, block, page), m.noise[[3]int{die, block, page}]), api.OK
}

func (m *model) program(die, block, page int, b []byte) api.Errno {
	place := [2]int{die, block}
	right := m.isPage(die, block, page) && !m.bad[place] && len(b) == 60 && page == m.next[place]
	if e := m.answer(right); e != api.OK {
		return e
	}
	m.next[place]++
	if m.torn() {
		m.pages[[3]int{die, block, page}] = plainMix(blank(), b, m.mask)
		return api.ErrDead
	}
	m.pages[[3]int{die, block, page}] = bytes.Clone(b)
	return api.OK
}

func (m *model) erase(die, block int) api.Errno {
	place := [2]int{die, block}
	if e := m.answer(m.isBlock(die, block) && !m.bad[place]); e != api.OK {
		return e
	}
	m.erases[place]++
	if m.torn() {
		for page := range m.g.Pages {
			m.pages[[3]int{die, block, page}] = plainMix(m.bytesOf(die, block, page), blank(), m.mask)
		}
		return api.ErrDead
	}
	for page := range m.g.Pages {
		delete(m.pages, [3]int{die, block, page})
	}
	m.next[place] = 0
	return api.OK
}

func (m *model) setNoise(die, block, page int, l []int) api.Errno {
	if !m.isPage(die, block, page) {
		return api.ErrArg
	}
	m.noise[[3]int{die, block, page}] = slices.Clone(l)
	return api.OK
}

func (m *model) stop(k int, mask []byte) { m.till, m.mask = max(k, 0), bytes.Clone(mask) }

func (m *model) power() { m.till, m.dead = 0, false }

// wantAsModel asks for all that can be told without a change of it, and then for each page.
func wantAsModel(t *testing.T, n *nand.Nand, m *model) {
	t.Helper()
	wantTold(t, n, m)
	for die := range m.g.Dies {
		for block := range m.g.Blocks {
			if n.IsBad(die, block) != m.bad[[2]int{die, block}] {
				t.Fatalf("IsBad(%d, %d): %v", die, block, n.IsBad(die, block))
			}
			if n.Erases(die, block) != m.erases[[2]int{die, block}] {
				t.Fatalf("Erases(%d, %d): %d", die, block, n.Erases(die, block))
			}
			for page := range m.g.Pages {
				wantSameRead(t, n, m, die, block, page)
			}
		}
	}
	wantTold(t, n, m)
}

func wantTold(t *testing.T, n *nand.Nand, m *model) {
	t.Helper()
	if n.Dead() != m.dead || n.Geometry() != m.g {
		t.Fatalf("Dead %v, Geometry %v, want %v, %v", n.Dead(), n.Geometry(), m.dead, m.g)
	}
	wantCounts(t, n, m.ops, m.wrong)
}

func wantSameRead(t *testing.T, n *nand.Nand, m *model, die, block, page int) {
	t.Helper()
	got, e := n.Read(die, block, page)
	want, wantE := m.read(die, block, page)
	if e != wantE || !bytes.Equal(got, want) {
		t.Fatalf("Read(%d, %d, %d): %v, %v, want %v, %v", die, block, page, got, e, want, wantE)
	}
}

// throw does one call, any one, with numbers that are few, so that they meet, and now and then none.
func (d *dice) throw(t *testing.T, n *nand.Nand, m *model) {
	t.Helper()
	die, block, page := d.place(m.g.Dies), d.place(m.g.Blocks), d.of(m.g.Pages+2)-1
	switch k := d.of(20); {
	case k < 8:
		// Mostly what may be, or blocks would never fill.
		if d.of(4) > 0 {
			page = m.next[[2]int{die, block}]
		}
		b := d.bytes(60 + max(0, d.of(20)-17) - max(0, d.of(20)-17))
		wantErrno(t, "Program", n.Program(die, block, page, b), m.program(die, block, page, b))
	case k < 11:
		wantErrno(t, "Erase", n.Erase(die, block), m.erase(die, block))
	case k < 14:
		wantSameRead(t, n, m, die, block, page)
	case k < 16:
		l := d.noise()
		wantErrno(t, "Noise", n.Noise(die, block, page, l), m.setNoise(die, block, page, l))
	case k < 18:
		count, mask := d.of(6)-1, d.bytes(d.of(70)*d.of(2))
		n.Stop(count, mask)
		m.stop(count, mask)
	default:
		n.Power()
		m.power()
	}
	wantTold(t, n, m)
}

func (d *dice) place(count int) int {
	if d.of(12) == 0 {
		return []int{-1, count}[d.of(2)]
	}
	return d.of(3) * (count - 1) / 2
}

func (d *dice) noise() []int {
	var l []int
	for range d.of(6) {
		l = append(l, d.of(500)-10)
	}
	return append(l, l[:len(l)/2]...)
}

// Whatever comes, in whatever order, several that stand side by side are each as the document says (P701 to P704, P7).
func TestP704AnyCallsInAnyOrder(t *testing.T) {
	for seed := range 30 {
		d := &dice{uint64(seed)}
		bad := [][2]int{{0, d.of(8)}, {d.of(6), 7}, {0, 0}}[:d.of(4)]
		var all []*nand.Nand
		var models []*model
		for _, g := range []api.Geometry{least, most, {Dies: 7, Blocks: 9, Pages: 5}} {
			all, models = append(all, flash(t, g, bad...)), append(models, modelOf(g, bad))
		}
		for step := range 2000 {
			k := d.of(len(all))
			d.throw(t, all[k], models[k])
			if step%100 == 99 {
				for k := range all {
					wantAsModel(t, all[k], models[k])
				}
			}
		}
		for k := range all {
			all[k].Power()
			models[k].power()
			wantAsModel(t, all[k], models[k])
		}
	}
}
