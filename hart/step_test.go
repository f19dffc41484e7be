package hart

import (
	"slices"
	"testing"

	"drawbridge/api"
	"drawbridge/bridge"
)

// TestAProgramOfEachInstruction: each is taken in its turn, and what one leaves the
// next one finds.
func TestAProgramOfEachInstruction(t *testing.T) {
	m := program(20,
		put(api.ISet, 1, 0, 25),  // 20: 1 is 25
		put(api.IShift, 1, 0, 4), // 21: 1 is 400
		put(api.ISet, 2, 0, 7),   // 22: 2 is 7
		put(api.IAdd, 2, 1, 0),   // 23: 2 is 407
		put(api.IStore, 2, 1, 3), // 24: word 403 is 407
		put(api.ILoad, 3, 1, 3),  // 25: 3 is 407
		put(api.ISame, 3, 1, 40), // 26: they aren't alike
		put(api.ISame, 3, 2, 30), // 27: they are: to 30
		0, 0,                     // 28
		put(api.ISet, 4, 0, api.Bare),  // 30: 4 is 1
		put(api.IOut, 4, 0, api.RMode), // 31: the bridge is bare
		put(api.IIn, 5, 0, api.RMode),  // 32: 5 is 1
		put(api.IHalt, 0, 0, 0),        // 33
	)
	h, _ := New(20)
	b := open()
	for _, want := range []struct {
		at int
		r  []int
	}{
		{21, []int{0, 25, 0, 0, 0, 0, 0, 0}},
		{22, []int{0, 400, 0, 0, 0, 0, 0, 0}},
		{23, []int{0, 400, 7, 0, 0, 0, 0, 0}},
		{24, []int{0, 400, 407, 0, 0, 0, 0, 0}},
		{25, []int{0, 400, 407, 0, 0, 0, 0, 0}},
		{26, []int{0, 400, 407, 407, 0, 0, 0, 0}},
		{27, []int{0, 400, 407, 407, 0, 0, 0, 0}},
		{30, []int{0, 400, 407, 407, 0, 0, 0, 0}},
		{31, []int{0, 400, 407, 407, 1, 0, 0, 0}},
		{32, []int{0, 400, 407, 407, 1, 0, 0, 0}},
		{33, []int{0, 400, 407, 407, 1, 1, 0, 0}},
	} {
		var e api.Errno
		m, h, b, e = Step(m, h, b)
		if e != api.OK || h.Done || h.At != want.at || !slices.Equal(h.R, want.r) {
			t.Fatalf("%+v, %v, want %+v", h, e, want)
		}
	}
	if m.W[403] != 407 || !bridge.Same(b, changed(func(b *api.Bridge) { b.Mode = api.Bare })) {
		t.Errorf("word 403 is %d, the bridge %+v", m.W[403], b)
	}
	ends(t, "the end", m, h, b)
	h.Done = true
	fails(t, "behind the end", m, h, b, api.ErrLate)
}

// TestOrdersByAProgram: it puts an order to drop all and a fence, and waits till the
// bridge has obeyed both.
func TestOrdersByAProgram(t *testing.T) {
	m := program(0,
		put(api.ISet, 1, 0, 60),         // 0
		put(api.IShift, 1, 0, 3),        // 1: page 60
		put(api.ISet, 2, 0, 1),          // 2
		put(api.IStore, 2, 1, 5),        // 3: drop all
		put(api.IStore, 0, 1, 6),        // 4: a fence
		put(api.IIn, 3, 0, api.RFences), // 5
		put(api.ISet, 4, 0, 7),          // 6
		put(api.IOut, 4, 0, api.RPut),   // 7
		put(api.IIn, 5, 0, api.RFences), // 8
		put(api.ISame, 3, 5, 8),         // 9: wait
		put(api.IHalt, 0, 0, 0),         // 10
	)
	h, _ := New(0)
	b := changed(func(b *api.Bridge) { b.Orders.Head, b.Fences = 5, 999 })
	step := func(n int) {
		for range n {
			var e api.Errno
			if m, h, b, e = Step(m, h, b); e != api.OK {
				t.Fatal(e)
			}
		}
	}
	obey := func() {
		var e api.Errno
		if b, e = bridge.Obey(m, b); e != api.OK {
			t.Fatal(e)
		}
	}
	step(8)
	if !slices.Equal(m.W[485:487], []int{1, 0}) || b.Orders.Tail != 7 || len(b.Cache) != 6 {
		t.Fatalf("the orders are %v, the bridge %+v", m.W[485:487], b)
	}
	step(6)
	obey()
	step(4)
	if h.Done || h.At != 8 || len(b.Cache) != 0 {
		t.Fatalf("it doesn't wait: %+v, %+v", h, b)
	}
	obey()
	step(3)
	if !h.Done || h.At != 10 || h.R[3] != 999 || h.R[5] != 0 {
		t.Errorf("it waits still: %+v, %+v", h, b)
	}
}

func TestTheNextWord(t *testing.T) {
	for place := range 512 {
		goesOn(t, "set", world(place, put(api.ISet, 3, 0, 5)), at(place), open(), reg(3, 5))
		ends(t, "halt", world(place, 0), at(place), open())
		ends(t, "none", world(place, 65535), at(place), open())
	}
}

// TestRoundAtTheLastWord: of every kind.
func TestRoundAtTheLastWord(t *testing.T) {
	h := with(511, map[int]int{1: 7, 2: 400})
	for name, c := range map[string]struct {
		w      int
		change func(*left)
	}{
		"set":             {put(api.ISet, 1, 0, 9), reg(1, 9)},
		"add":             {put(api.IAdd, 1, 2, 0), reg(1, 407)},
		"shift":           {put(api.IShift, 1, 0, 1), reg(1, 14)},
		"load":            {put(api.ILoad, 1, 2, 9), reg(1, 40409)},
		"store":           {put(api.IStore, 1, 2, 9), func(l *left) { l.m.W[409] = 7 }},
		"same, not alike": {put(api.ISame, 1, 2, 9), nothing},
		"same, alike":     {put(api.ISame, 1, 1, 9), func(l *left) { l.h.At = 9 }},
		"in":              {put(api.IIn, 1, 0, api.RBase), reg(1, 9)},
		"out":             {put(api.IOut, 1, 0, api.RBase), func(l *left) { l.b.Base = 7 }},
	} {
		goesOn(t, name, world(511, c.w), h, open(), c.change)
	}
	ends(t, "halt", world(511, 0), h, open())
	ends(t, "there is no such word", world(511, put(api.ILoad, 1, 2, 63)), with(511, map[int]int{2: 449}), open())
}

func TestSet(t *testing.T) {
	for a := range 8 {
		for imm := range 64 {
			goesOn(t, "set", world(77, put(api.ISet, a, 0, imm)), at(77), open(), reg(a, imm))
		}
	}
}

func TestAdd(t *testing.T) {
	for _, c := range [][3]int{
		{0, 0, 0}, {0, 1, 1}, {1, 0, 1}, {12, 30, 42}, {5, 1, 6}, {3, 3, 6}, {0, 65535, 65535}, {65535, 0, 65535},
		{65534, 1, 65535}, {65535, 1, 0}, {1, 65535, 0}, {32768, 32767, 65535}, {32768, 32768, 0}, {32768, 32769, 1},
		{65535, 2, 1}, {65535, 65535, 65534}, {60000, 6000, 464},
	} {
		for a := range 8 {
			for b := range 8 {
				if a != b {
					goesOn(t, "add", world(77, put(api.IAdd, a, b, 0)), with(77, map[int]int{a: c[0], b: c[1]}), open(), reg(a, c[2]))
				}
			}
		}
	}
	for _, c := range [][2]int{{0, 0}, {1, 2}, {21, 42}, {32767, 65534}, {32768, 0}, {32769, 2}, {65535, 65534}} {
		for a := range 8 {
			goesOn(t, "to itself", world(77, put(api.IAdd, a, a, 0)), with(77, map[int]int{a: c[0]}), open(), reg(a, c[1]))
		}
	}
}

func TestShift(t *testing.T) {
	for _, c := range [][3]int{
		{0, 0, 0}, {7, 0, 7}, {65535, 0, 65535}, {1, 1, 2}, {5, 3, 40}, {1, 15, 32768}, {1, 16, 0}, {1, 63, 0},
		{32767, 1, 65534}, {32768, 1, 0}, {32769, 1, 2}, {65535, 1, 65534}, {65535, 15, 32768}, {65535, 16, 0},
		{65535, 47, 0}, {65535, 48, 0}, {65535, 62, 0}, {65535, 63, 0}, {3, 63, 0}, {0, 63, 0}, {4097, 5, 32}, {0xabcd, 4, 0xbcd0},
	} {
		for a := range 8 {
			goesOn(t, "shift", world(77, put(api.IShift, a, 0, c[1])), with(77, map[int]int{a: c[0]}), open(), reg(a, c[2]))
		}
	}
	for imm := range 64 {
		for _, w := range []int{0, 1, 2, 3, 255, 256, 12345, 32767, 32768, 40961, 65534, 65535} {
			goesOn(t, "shift", world(77, put(api.IShift, 2, 0, imm)), with(77, map[int]int{2: w}), open(), reg(2, int(uint16(w)<<imm)))
		}
	}
}

func TestSameOfRegisters(t *testing.T) {
	for a := range 8 {
		for b := range 8 {
			for _, imm := range []int{0, 1, 20, 62, 63} {
				m := world(77, put(api.ISame, a, b, imm))
				there := func(l *left) { l.h.At = imm }
				for _, w := range []int{0, 1, 65535} {
					goesOn(t, "alike", m, with(77, map[int]int{a: w, b: w}), open(), there)
				}
				if a != b {
					goesOn(t, "not alike", m, at(77), open(), nothing)
					goesOn(t, "one apart", m, with(77, map[int]int{a: 65534, b: 65535}), open(), nothing)
					goesOn(t, "as far apart as may be", m, with(77, map[int]int{a: 65535, b: 0}), open(), nothing)
				}
			}
		}
	}
	goesOn(t, "to where it is", world(33, put(api.ISame, 1, 1, 33)), at(33), open(), func(l *left) { l.h.At = 33 })
	goesOn(t, "to the next", world(33, put(api.ISame, 1, 1, 34)), at(33), open(), nothing)
}

// TestEveryWord: B + Imm may be any word of memory, by any way to make that sum.
func TestEveryWord(t *testing.T) {
	for place := range 512 {
		for _, imm := range []int{0, 1, 31, 62, 63} {
			if imm > place {
				continue
			}
			h := with(20, map[int]int{6: place - imm})
			m := world(20, put(api.ILoad, 2, 6, imm))
			goesOn(t, "load", m, h, open(), reg(2, m.W[place]))
			m = world(20, put(api.IStore, 2, 6, imm))
			goesOn(t, "store", m, h, open(), func(l *left) { l.m.W[place] = 102 })
		}
	}
}

func TestNoSuchWord(t *testing.T) {
	for _, c := range []struct{ b, imm int }{
		{512, 0}, {513, 0}, {65535, 0}, {65535, 1}, {65535, 63}, {511, 1}, {511, 63}, {510, 2}, {449, 63}, {450, 63},
		{512, 63}, {32768, 0}, {65473, 63}, {65472, 63},
	} {
		for a := range 8 {
			for b := range 8 {
				h := with(20, map[int]int{b: c.b})
				ends(t, "load", world(20, put(api.ILoad, a, b, c.imm)), h, open())
				ends(t, "store", world(20, put(api.IStore, a, b, c.imm)), h, open())
			}
		}
	}
}

func TestTheLastWord(t *testing.T) {
	for _, c := range []struct{ b, imm int }{{511, 0}, {510, 1}, {480, 31}, {448, 63}} {
		h := with(20, map[int]int{5: c.b})
		goesOn(t, "load", world(20, put(api.ILoad, 4, 5, c.imm)), h, open(), reg(4, 40511))
		goesOn(t, "store", world(20, put(api.IStore, 4, 5, c.imm)), h, open(), func(l *left) { l.m.W[511] = 104 })
	}
}

// TestEveryRegister: to load by and to store by, one for both among them.
func TestEveryRegister(t *testing.T) {
	for a := range 8 {
		for b := range 8 {
			place := 100 + b + 9
			goesOn(t, "load", world(20, put(api.ILoad, a, b, 9)), at(20), open(), reg(a, 40000+place))
			goesOn(t, "store", world(20, put(api.IStore, a, b, 9)), at(20), open(), func(l *left) { l.m.W[place] = 100 + a })
		}
	}
}

func TestWordsOfEverySize(t *testing.T) {
	for _, w := range []int{0, 1, 255, 32768, 65534, 65535} {
		m := world(20, put(api.ILoad, 1, 2, 0))
		m.W[300] = w
		goesOn(t, "load", m, with(20, map[int]int{2: 300}), open(), reg(1, w))
		m = world(20, put(api.IStore, 1, 2, 0))
		goesOn(t, "store", m, with(20, map[int]int{1: w, 2: 300}), open(), func(l *left) { l.m.W[300] = w })
	}
}

// TestAProgramIsWords: it may load and store its own, and takes what is there then.
func TestAProgramIsWords(t *testing.T) {
	w := put(api.ILoad, 1, 2, 0)
	goesOn(t, "load of itself", world(20, w), with(20, map[int]int{2: 20}), open(), reg(1, w))
	m, h, b := world(20, put(api.IStore, 1, 2, 0)), with(20, map[int]int{1: 0, 2: 20}), open()
	goesOn(t, "store over itself", m, h, b, func(l *left) { l.m.W[20] = 0 })

	h = with(20, map[int]int{1: put(api.ISet, 7, 0, 33), 2: 21})
	goesOn(t, "store over the next", m, h, b, func(l *left) { l.m.W[21] = put(api.ISet, 7, 0, 33) })
	m, h, b, _ = Step(m, h, b)
	goesOn(t, "the next", m, h, b, reg(7, 33))
}

// TestMemoryDoesNotComeThroughTheBridge: the hart's words are let through in every
// mode, and nothing is remembered of them.
func TestMemoryDoesNotComeThroughTheBridge(t *testing.T) {
	for mode := api.Off; mode <= api.On; mode++ {
		for _, l := range [][]api.Line{nil, {}, open().Cache[:1], open().Cache} {
			b := changed(func(b *api.Bridge) { b.Mode, b.Cache = mode, l })
			goesOn(t, "load", world(20, put(api.ILoad, 1, 2, 9)), at(20), b, reg(1, 40111))
			goesOn(t, "store", world(20, put(api.IStore, 1, 2, 9)), at(20), b, func(l *left) { l.m.W[111] = 101 })
			goesOn(t, "store into the directory", world(20, put(api.IStore, 1, 2, 0)), with(20, map[int]int{2: 72}), b, func(l *left) { l.m.W[72] = 101 })
			goesOn(t, "store into a ring", world(20, put(api.IStore, 1, 2, 0)), with(20, map[int]int{2: 483}), b, func(l *left) { l.m.W[483] = 101 })
		}
	}
}

func TestNoInstruction(t *testing.T) {
	for _, w := range []int{
		1, 64, 512, 4095, put(api.ISet, 1, 1, 5), put(api.ISet, 0, 7, 0), put(api.IAdd, 1, 2, 1), put(api.IAdd, 0, 0, 63),
		put(api.IShift, 1, 1, 0), put(api.IOut, 1, 1, api.RMode), put(api.IIn, 1, 1, api.RMode), put(api.IIn, 7, 7, 63),
		put(9, 0, 0, 0), put(15, 7, 7, 63), 40000, 65535,
	} {
		for _, place := range []int{0, 20, 511} {
			ends(t, "none", world(place, w), at(place), open())
		}
	}
}
