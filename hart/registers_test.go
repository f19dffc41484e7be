package hart

import (
	"testing"

	"drawbridge/api"
)

// TestInOfEachRegister: by the numbers that the document counts from 0 on.
func TestInOfEachRegister(t *testing.T) {
	for imm, want := range []int{2, 9, 60, 5, 3, 61, 4, 6, 517, 0} {
		for a := range 8 {
			goesOn(t, "in", world(20, put(api.IIn, a, 0, imm)), at(20), open(), reg(a, want))
		}
	}
}

// TestInOfEdges: of each register the least and the most that a bridge may have.
func TestInOfEdges(t *testing.T) {
	least := api.Bridge{}
	most := api.Bridge{
		Mode: api.On, Base: 63, Fences: 999, Stopped: true, Lost: true,
		Orders: api.Ring{Page: 63, Head: 7, Tail: 7}, Faults: api.Ring{Page: 63, Head: 7, Tail: 7},
	}
	for imm, want := range []int{2, 63, 63, 7, 7, 63, 7, 7, 999, 3} {
		m := world(20, put(api.IIn, 1, 0, imm))
		goesOn(t, "the least", m, at(20), least, reg(1, 0))
		goesOn(t, "the most", m, at(20), most, reg(1, want))
	}
}

func TestInOfEachState(t *testing.T) {
	m := world(20, put(api.IIn, 1, 0, api.RState))
	goesOn(t, "neither", m, at(20), inState(false, false), reg(1, 0))
	goesOn(t, "stopped", m, at(20), inState(true, false), reg(1, 1))
	goesOn(t, "lost", m, at(20), inState(false, true), reg(1, 2))
	goesOn(t, "both", m, at(20), inState(true, true), reg(1, 3))
}

func TestNoSuchRegister(t *testing.T) {
	for imm := 10; imm < 64; imm++ {
		for a := range 8 {
			for _, w := range []int{0, 1, 65535} {
				h := with(20, map[int]int{a: w})
				ends(t, "in", world(20, put(api.IIn, a, 0, imm)), h, open())
				ends(t, "out", world(20, put(api.IOut, a, 0, imm)), h, open())
			}
		}
	}
}

// settable is a register that may be set, to what is below a limit.
type settable struct {
	imm, limit int
	set        func(b *api.Bridge, w int)
}

func settables() []settable {
	return []settable{
		{0, 3, func(b *api.Bridge, w int) { b.Mode = w }},
		{1, 64, func(b *api.Bridge, w int) { b.Base = w }},
		{2, 64, func(b *api.Bridge, w int) { b.Orders.Page = w }},
		{3, 8, func(b *api.Bridge, w int) { b.Orders.Tail = w }},
		{5, 64, func(b *api.Bridge, w int) { b.Faults.Page = w }},
		{6, 8, func(b *api.Bridge, w int) { b.Faults.Head = w }},
	}
}

func TestOut(t *testing.T) {
	for _, c := range settables() {
		for a := range 8 {
			m := world(20, put(api.IOut, a, 0, c.imm))
			for w := range c.limit {
				for _, b := range []api.Bridge{open(), inState(true, true), {}} {
					goesOn(t, "out", m, with(20, map[int]int{a: w}), b, func(l *left) { c.set(&l.b, w) })
				}
			}
		}
	}
}

func TestOutOfWhatMayNotBe(t *testing.T) {
	for _, c := range settables() {
		for a := range 8 {
			m := world(20, put(api.IOut, a, 0, c.imm))
			for _, w := range []int{c.limit, c.limit + 1, 100, 256, 512, 1000, 32768, 65534, 65535} {
				for _, b := range []api.Bridge{open(), inState(true, true), {}} {
					ends(t, "out", m, with(20, map[int]int{a: w}), b)
				}
			}
		}
	}
}

// TestOutOfWhatTheBridgeCounts: these can't be set, not even to what they are.
func TestOutOfWhatTheBridgeCounts(t *testing.T) {
	for imm, is := range map[int]int{4: 3, 7: 6, 8: 517} {
		for _, w := range []int{is, 0, 1, is + 1, 7, 8, 999, 1000, 65535} {
			for a := range 8 {
				ends(t, "out", world(20, put(api.IOut, a, 0, imm)), with(20, map[int]int{a: w}), open())
			}
		}
	}
}

func TestOutOfState(t *testing.T) {
	for _, stopped := range []bool{false, true} {
		for _, lost := range []bool{false, true} {
			for a := range 8 {
				m := world(20, put(api.IOut, a, 0, api.RState))
				goesOn(t, "to 0", m, with(20, map[int]int{a: 0}), inState(stopped, lost), func(l *left) { l.b.Stopped, l.b.Lost = false, false })
				for _, w := range []int{1, 2, 3, 4, 256, 32768, 65535} {
					ends(t, "to another", m, with(20, map[int]int{a: w}), inState(stopped, lost))
				}
			}
		}
	}
}

// TestWhatIsPutOutComesIn: what was set is read again.
func TestWhatIsPutOutComesIn(t *testing.T) {
	for _, c := range settables() {
		for w := range c.limit {
			m, h, b := program(20, put(api.IOut, 1, 0, c.imm), put(api.IIn, 2, 0, c.imm)), with(20, map[int]int{1: w}), open()
			m, h, b, _ = Step(m, h, b)
			goesOn(t, "in again", m, h, b, reg(2, w))
		}
	}
}

// TestAWholeRing: Tail and Head may be set so that a ring has nothing in it, or
// seven words; neither counts what waits.
func TestAWholeRing(t *testing.T) {
	for head := range 8 {
		for tail := range 8 {
			b := changed(func(b *api.Bridge) { b.Orders.Head, b.Faults.Tail = head, tail })
			goesOn(t, "tail of orders", world(20, put(api.IOut, 1, 0, api.RPut)), with(20, map[int]int{1: tail}), b, func(l *left) { l.b.Orders.Tail = tail })
			goesOn(t, "head of faults", world(20, put(api.IOut, 1, 0, api.RRead)), with(20, map[int]int{1: head}), b, func(l *left) { l.b.Faults.Head = head })
		}
	}
}
