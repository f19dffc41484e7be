package hart

import (
	"math"
	"slices"
	"testing"

	"drawbridge/api"
	"drawbridge/bridge"
)

// eachSort is a word of each sort of step: of each kind, of what can't be done, and
// of what is no instruction, for a hart as at has it.
var eachSort = []int{
	put(api.IHalt, 0, 0, 0), put(api.ISet, 3, 0, 9), put(api.IAdd, 3, 4, 0), put(api.IShift, 3, 0, 2),
	put(api.ILoad, 3, 4, 9), put(api.IStore, 3, 4, 9), put(api.ISame, 3, 4, 9), put(api.ISame, 3, 3, 9),
	put(api.IOut, 3, 0, api.RBase), put(api.IOut, 0, 0, api.RFences), put(api.IOut, 3, 0, 63),
	put(api.IIn, 3, 0, api.RBase), put(api.IIn, 3, 0, 10), 1, 65535,
}

// badMem is a memory that is refused, and why.
type badMem struct {
	name string
	m    api.Mem
	want api.Errno
}

func badMems() []badMem {
	return []badMem{
		{"no list", api.Mem{}, api.ErrForm},
		{"an empty list", api.Mem{W: []int{}}, api.ErrForm},
		{"one word too few", api.Mem{W: world(3, 0).W[:511]}, api.ErrForm},
		{"one word too many", api.Mem{W: append(world(3, 0).W, 0)}, api.ErrForm},
		{"too few, and a bad word", api.Mem{W: []int{-1}}, api.ErrForm},
		{"the word at which it is, -1", world(3, -1), api.ErrRange},
		{"the word at which it is, 65536", world(3, 65536), api.ErrRange},
		{"another word, -1", world(511, -1), api.ErrRange},
		{"another word, the greatest number", world(0, math.MaxInt), api.ErrRange},
	}
}

// badBridge is a bridge that is refused, and why.
type badBridge struct {
	name string
	b    api.Bridge
	want api.Errno
}

func badBridges() []badBridge {
	return []badBridge{
		{"no mode", changed(func(b *api.Bridge) { b.Mode = 3 }), api.ErrRange},
		{"no base", changed(func(b *api.Bridge) { b.Base = -1 }), api.ErrRange},
		{"no fences", changed(func(b *api.Bridge) { b.Fences = 1000 }), api.ErrRange},
		{"one line too many", changed(func(b *api.Bridge) { b.Cache = append(b.Cache, api.Line{Dev: 6, Read: true}) }), api.ErrMany},
		{"a line of no device", changed(func(b *api.Bridge) { b.Cache[5].Dev = 8 }), api.ErrRange},
		{"a line that may not be read", changed(func(b *api.Bridge) { b.Cache[5].Read = false }), api.ErrForm},
		{"twice a line", changed(func(b *api.Bridge) { b.Cache[5].Dev, b.Cache[5].Page = 0, 0 }), api.ErrTwice},
		{"orders at no page", changed(func(b *api.Bridge) { b.Orders.Page = 64 }), api.ErrRange},
		{"no head of orders", changed(func(b *api.Bridge) { b.Orders.Head = 8 }), api.ErrRange},
		{"no tail of orders", changed(func(b *api.Bridge) { b.Orders.Tail = -1 }), api.ErrRange},
		{"faults at no page", changed(func(b *api.Bridge) { b.Faults.Page = -1 }), api.ErrRange},
		{"no head of faults", changed(func(b *api.Bridge) { b.Faults.Head = -1 }), api.ErrRange},
		{"no tail of faults", changed(func(b *api.Bridge) { b.Faults.Tail = 8 }), api.ErrRange},
	}
}

// done is a right hart that is Done.
func done(place int) api.Hart {
	h := at(place)
	h.Done = true
	return h
}

func TestMemoryIsToldFirst(t *testing.T) {
	for _, c := range badMems() {
		fails(t, c.name, c.m, at(3), open(), c.want)
		fails(t, c.name+", done", c.m, done(3), open(), c.want)
		for _, x := range badBridges() {
			fails(t, c.name+", "+x.name, c.m, at(3), x.b, c.want)
			for _, y := range badHarts() {
				fails(t, c.name+", "+x.name+", "+y.name, c.m, y.h, x.b, c.want)
			}
		}
		for _, y := range badHarts() {
			fails(t, c.name+", "+y.name, c.m, y.h, open(), c.want)
		}
	}
}

func TestTheHartIsToldAheadOfTheBridge(t *testing.T) {
	for _, y := range badHarts() {
		for _, w := range eachSort {
			fails(t, y.name, world(3, w), y.h, open(), y.want)
		}
		for _, x := range badBridges() {
			fails(t, y.name+", "+x.name, world(3, 0), y.h, x.b, y.want)
		}
	}
}

func TestTheBridgeIsToldAheadOfDone(t *testing.T) {
	for _, x := range badBridges() {
		for _, w := range eachSort {
			fails(t, x.name, world(3, w), at(3), x.b, x.want)
			fails(t, x.name+", done", world(3, w), done(3), x.b, x.want)
		}
	}
}

func TestDoneIsLate(t *testing.T) {
	for _, w := range eachSort {
		for _, place := range []int{0, 3, 511} {
			fails(t, "done", world(place, w), done(place), open(), api.ErrLate)
			fails(t, "done", world(place, w), done(place), api.Bridge{}, api.ErrLate)
		}
	}
}

// TestOutDoesNotMendABridge: one that is wrong is refused, even by what would set it
// right.
func TestOutDoesNotMendABridge(t *testing.T) {
	h := with(3, map[int]int{1: 0})
	for imm, b := range map[int]api.Bridge{
		api.RMode:   changed(func(b *api.Bridge) { b.Mode = 3 }),
		api.RBase:   changed(func(b *api.Bridge) { b.Base = 64 }),
		api.ROrders: changed(func(b *api.Bridge) { b.Orders.Page = 64 }),
		api.RPut:    changed(func(b *api.Bridge) { b.Orders.Tail = 8 }),
		api.RFaults: changed(func(b *api.Bridge) { b.Faults.Page = 64 }),
		api.RRead:   changed(func(b *api.Bridge) { b.Faults.Head = 8 }),
	} {
		fails(t, "out", world(3, put(api.IOut, 1, 0, imm)), h, b, api.ErrRange)
	}
}

// TestWhatIsHandedInStays: neither the lists nor the room behind them are changed,
// and what is answered shares none of it.
func TestWhatIsHandedInStays(t *testing.T) {
	for _, w := range eachSort {
		for _, lines := range []int{0, 1, 6} {
			for _, h := range []api.Hart{at(3), done(3)} {
				m, b := world(3, w), open()
				words := append(slices.Clone(m.W), marker, marker)
				regs := append(slices.Clone(h.R), marker, marker)
				cache := append(slices.Clone(b.Cache), noLine, noLine)
				was := copies(api.Mem{W: words}, api.Hart{R: regs}, api.Bridge{Cache: cache})

				h.R, b.Cache = regs[:8], cache[:lines]
				n, g, c, _ := Step(api.Mem{W: words[:512]}, h, b)
				spoil(n.W, spoilt)
				spoil(g.R, spoilt)
				spoil(c.Cache, spoiltLine)
				if !slices.Equal(words, was.m.W) || !slices.Equal(regs, was.h.R) || !slices.Equal(cache, was.b.Cache) {
					t.Errorf("the word %d, %d lines, %v: something that was handed in is changed", w, lines, h.Done)
				}
			}
		}
	}
}

// spoil fills a list, and the room behind it.
func spoil[T any](l []T, x T) {
	l = l[:cap(l)]
	for k := range l {
		l[k] = x
	}
}

// TestListsOfOneAnswer: of the two lists of numbers neither is a piece of the other.
func TestListsOfOneAnswer(t *testing.T) {
	for _, w := range eachSort {
		n, g, _, _ := Step(world(3, w), at(3), open())
		words := slices.Clone(n.W)
		spoil(g.R, spoilt)
		if !slices.Equal(n.W, words) {
			t.Errorf("the word %d: registers and memory share something", w)
		}
	}
}

// TestWordsAndRegistersOfOneList: what is handed in may share what it likes.
func TestWordsAndRegistersOfOneList(t *testing.T) {
	for _, w := range eachSort {
		m := world(3, w)
		h := api.Hart{At: 3, R: m.W[96:104]}
		n, g, c, e := Step(m, h, open())
		k, f, d, q := Step(api.Mem{W: slices.Clone(m.W)}, api.Hart{At: 3, R: slices.Clone(h.R)}, open())
		if e != q || !slices.Equal(n.W, k.W) || !Same(g, f) || !bridge.Same(c, d) {
			t.Errorf("the word %d: %+v, %v, want %+v, %v", w, g, e, f, q)
		}
	}
}

func TestTwiceTheSame(t *testing.T) {
	for _, w := range eachSort {
		n, g, c, e := Step(world(3, w), at(3), open())
		k, f, d, q := Step(world(3, w), at(3), open())
		if e != q || !slices.Equal(n.W, k.W) || !Same(g, f) || !bridge.Same(c, d) {
			t.Errorf("the word %d: once %+v, once %+v", w, g, f)
		}
	}
}
