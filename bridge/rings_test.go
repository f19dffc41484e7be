package bridge

import (
	"slices"
	"testing"

	"drawbridge/api"
	"drawbridge/ring"
	"drawbridge/word"
)

// fault is one whose word, 4235, no word of world is.
var fault = api.Fault{Cause: api.NoPage, Dev: 1, Page: 2, Write: true}

// after is the step behind another one, written out.
var after = [8]int{1, 2, 3, 4, 5, 6, 7, 0}

// tellIs asks for a memory that differs in one word at most (at -1: in none), and
// for a bridge.
func tellIs(t *testing.T, name string, m api.Mem, b api.Bridge, f api.Fault, at, w int, want api.Bridge) {
	t.Helper()
	n, c, e := Tell(m, b, f)
	if e != api.OK {
		t.Errorf("%s: Tell of %+v: %v", name, f, e)
	}
	words := slices.Clone(m.W)
	if at >= 0 {
		words[at] = w
	}
	if !slices.Equal(n.W, words) {
		t.Errorf("%s: Tell of %+v: memory isn't with %d as word %d alone", name, f, w, at)
	}
	if !Same(c, want) {
		t.Errorf("%s: Tell of %+v: %+v, want %+v", name, f, c, want)
	}
}

func tellFails(t *testing.T, name string, m api.Mem, b api.Bridge, f api.Fault, want api.Errno) {
	t.Helper()
	n, c, e := Tell(m, b, f)
	if e != want {
		t.Errorf("%s: Tell of %+v: %v, want %v", name, f, e, want)
	}
	if n.W != nil || !isZero(c) {
		t.Errorf("%s: Tell of %+v: an error, and %d words, %+v", name, f, len(n.W), c)
	}
}

func obeyIs(t *testing.T, name string, m api.Mem, b, want api.Bridge) {
	t.Helper()
	if got, e := Obey(m, b); e != api.OK || !Same(got, want) {
		t.Errorf("%s: Obey: %+v, %v, want %+v", name, got, e, want)
	}
}

func obeyFails(t *testing.T, name string, m api.Mem, b api.Bridge, want api.Errno) {
	t.Helper()
	if got, e := Obey(m, b); e != want || !isZero(got) {
		t.Errorf("%s: Obey: %+v, %v, want %v alone", name, got, e, want)
	}
}

// TestTellIntoEveryRing: the word goes into the ring where there is room; where
// there is none the fault is lost, and memory stays.
func TestTellIntoEveryRing(t *testing.T) {
	for page := range 64 {
		for head := range 8 {
			for tail := range 8 {
				for mode := api.Off; mode <= api.On; mode++ {
					b := of(mode, full()...)
					b.Faults = api.Ring{Page: page, Head: head, Tail: tail}
					want := b
					if after[tail] == head {
						want.Lost = true
						tellIs(t, "a full ring", world(), b, fault, -1, 0, want)
						continue
					}
					want.Faults.Tail = after[tail]
					tellIs(t, "a ring with room", world(), b, fault, 8*page+tail, 4235, want)
				}
			}
		}
	}
}

// TestTellOfALostOne: nothing more is told, whether there is room or not.
func TestTellOfALostOne(t *testing.T) {
	for head := range 8 {
		for tail := range 8 {
			for _, l := range [][]api.Line{nil, full()} {
				b := of(api.On, l...)
				b.Lost, b.Faults = true, api.Ring{Page: 61, Head: head, Tail: tail}
				tellIs(t, "lost", world(), b, fault, -1, 0, b)
			}
		}
	}
}

func TestTellOfAStoppedOne(t *testing.T) {
	b := with(func(b *api.Bridge) { b.Stopped = true })
	want := b
	want.Faults.Tail = 7
	tellIs(t, "stopped", world(), b, fault, 8*61+6, 4235, want)
}

// TestTellEveryFault: each that there may be is found in the ring, as its word.
func TestTellEveryFault(t *testing.T) {
	for cause := api.Shut; cause <= api.NoRight; cause++ {
		for dev := range 8 {
			for page := range 64 {
				for _, write := range []bool{false, true} {
					f := api.Fault{Cause: cause, Dev: dev, Page: page, Write: write}
					w := cause + 8*dev + 64*page
					if write {
						w += 4096
					}
					want := on()
					want.Faults.Tail = 7
					tellIs(t, "a fault", world(), on(), f, 8*61+6, w, want)
				}
			}
		}
	}
}

// badFaults are all refused with ErrRange.
func badFaults() []api.Fault {
	l := []api.Fault{{}, {Cause: api.None, Dev: 1, Page: 2, Write: true}, {Cause: 6}, {Cause: 7}, {Cause: -1}, {Cause: 8}}
	for _, d := range noDevs {
		l = append(l, api.Fault{Cause: api.Shut, Dev: d}, api.Fault{Cause: api.NoRight, Dev: d, Page: 63, Write: true})
	}
	for _, p := range noPages {
		l = append(l, api.Fault{Cause: api.Shut, Page: p}, api.Fault{Cause: api.NoRight, Dev: 7, Page: p, Write: true})
	}
	return l
}

// TestTellOfNoFault: it is told that it may not be, also where it would be lost.
func TestTellOfNoFault(t *testing.T) {
	for _, f := range badFaults() {
		tellFails(t, "with room", world(), on(), f, api.ErrRange)
		tellFails(t, "off", world(), of(api.Off, full()...), f, api.ErrRange)
		tellFails(t, "a full ring", world(), with(func(b *api.Bridge) { b.Faults.Tail = 3 }), f, api.ErrRange)
		tellFails(t, "lost", world(), with(func(b *api.Bridge) { b.Lost = true }), f, api.ErrRange)
	}
}

func TestTellTellsTheFirst(t *testing.T) {
	faults := append(badFaults(), fault)
	for _, f := range faults {
		for _, c := range badMems() {
			tellFails(t, c.name, c.m, on(), f, c.want)
			for _, x := range badBridges() {
				tellFails(t, c.name+", "+x.name, c.m, x.b, f, c.want)
			}
		}
		for _, x := range badBridges() {
			tellFails(t, x.name, world(), x.b, f, x.want)
			x.b.Lost = true
			tellFails(t, x.name+", lost", world(), x.b, f, x.want)
		}
	}
}

// TestFaultsWaitInOrder: the first seven are told, and no later one while it is
// lost, even when there is room again.
func TestFaultsWaitInOrder(t *testing.T) {
	for at := range 8 {
		m, b := world(), on()
		b.Faults = api.Ring{Page: 30, Head: at, Tail: at}
		e := api.OK
		for k := range 9 {
			if m, b, e = Tell(m, b, api.Fault{Cause: api.NoWay, Page: k}); e != api.OK {
				t.Fatalf("fault %d from %d on: %v", k, at, e)
			}
			if b.Lost != (k >= 7) || ring.Length(b.Faults) != min(k+1, 7) {
				t.Errorf("fault %d from %d on: lost %v, %d wait", k, at, b.Lost, ring.Length(b.Faults))
			}
		}
		b.Faults.Head = after[b.Faults.Head]
		m, b, _ = Tell(m, b, fault)
		for k := 1; k < 7; k++ {
			w, r, e := ring.Pop(m, b.Faults)
			f, _ := word.ReadFault(w)
			if e != api.OK || f != (api.Fault{Cause: api.NoWay, Page: k}) {
				t.Errorf("fault %d from %d on: %+v, %v", k, at, f, e)
			}
			b.Faults = r
		}
		if ring.Length(b.Faults) != 0 {
			t.Errorf("from %d on: more is told than there was room for: %v", at, b.Faults)
		}
		b.Lost = false
		if _, b, _ = Tell(m, b, fault); ring.Length(b.Faults) != 1 || b.Lost {
			t.Errorf("from %d on: not told when nothing is lost any more: %+v", at, b)
		}
	}
}

// ordered is world with one order, the word 2 of page 60, of which on says that it
// is the next one, and another one behind it.
func ordered(w int) api.Mem {
	m := world()
	m.W[482], m.W[483] = w, 1
	return m
}

// keeping is the bridge that comes of full with these lines and fences.
func keeping(fences int, k ...int) api.Bridge {
	b := of(api.On)
	for _, i := range k {
		b.Cache = append(b.Cache, full()[i])
	}
	b.Fences, b.Orders.Head = fences, 3
	return b
}

func TestObey(t *testing.T) {
	b := of(api.On, full()...)
	for _, c := range []struct {
		name string
		w    int
		want api.Bridge
	}{
		{"a fence", 0, keeping(18, 0, 1, 2, 3, 4, 5)},
		{"all", 1, keeping(17)},
		{"device 0, with two lines", 2, keeping(17, 2, 3, 4, 5)},
		{"device 1", 2 + 4*1, keeping(17, 0, 1, 3, 4, 5)},
		{"device 7", 2 + 4*7, keeping(17, 0, 1, 2, 3, 4)},
		{"a device with no line", 2 + 4*6, keeping(17, 0, 1, 2, 3, 4, 5)},
		{"the first line", 3, keeping(17, 1, 2, 3, 4, 5)},
		{"another page of that device", 3 + 32*4, keeping(17, 0, 2, 3, 4, 5)},
		{"that page of another device", 3 + 4*1, keeping(17, 0, 1, 3, 4, 5)},
		{"the last line", 3 + 4*7 + 32*63, keeping(17, 0, 1, 2, 3, 4)},
		{"a page with no line", 3 + 4*2 + 32*8, keeping(17, 0, 1, 2, 3, 4, 5)},
	} {
		obeyIs(t, c.name, ordered(c.w), b, c.want)
		for _, mode := range []int{api.Off, api.Bare} {
			m, want := b, c.want
			m.Mode, want.Mode = mode, mode
			obeyIs(t, c.name, ordered(c.w), m, want)
		}
		lost, want := b, c.want
		lost.Lost, want.Lost = true, true
		obeyIs(t, c.name+", lost", ordered(c.w), lost, want)
	}
}

func TestObeyWithNothingRemembered(t *testing.T) {
	for w, fences := range []int{18, 17, 17, 17} {
		obeyIs(t, "no lines", ordered(w), on(), keeping(fences))
	}
}

// TestObeyEveryWord: each that is an order is obeyed, each other one stops it.
func TestObeyEveryWord(t *testing.T) {
	b := of(api.On, full()...)
	stopped := b
	stopped.Stopped = true
	m := ordered(0)
	for w := 0; w <= 65535; w++ {
		m.W[482] = w
		want := keeping(17)
		dev, page := w/4%8, w/32
		for _, x := range full() {
			goes := w%4 == 1 || w%4 == 2 && x.Dev == dev || w%4 == 3 && x.Dev == dev && x.Page == page
			if !goes {
				want.Cache = append(want.Cache, x)
			}
		}
		switch {
		case w == 0:
			want.Fences = 18
		case w%4 < 2 && w > 1, w%4 == 2 && page > 0, page > 63:
			want = stopped
		}
		obeyIs(t, "a word", m, b, want)
		if t.Failed() {
			t.Fatalf("the word was %d", w)
		}
	}
}

// TestObeyEveryRing: the order at Head is taken, wherever that is, and all the
// others, which are none, don't count.
func TestObeyEveryRing(t *testing.T) {
	for page := range 64 {
		for head := range 8 {
			for tail := range 8 {
				b := of(api.On, full()...)
				b.Orders = api.Ring{Page: page, Head: head, Tail: tail}
				m := api.Mem{W: slices.Repeat([]int{65535}, 512)}
				m.W[8*page+head] = 0
				if head == tail {
					obeyFails(t, "no orders", m, b, api.ErrLate)
					continue
				}
				want := b
				want.Orders.Head, want.Fences = after[head], 18
				obeyIs(t, "a fence", m, b, want)
			}
		}
	}
}

func TestFencesGoRound(t *testing.T) {
	b := on()
	b.Fences = 0
	m := world()
	for k := range 2100 {
		if b.Fences != k%1000 {
			t.Fatalf("%d fences: %d", k, b.Fences)
		}
		b.Orders.Tail = after[b.Orders.Head]
		e := api.OK
		if b, e = Obey(m, b); e != api.OK {
			t.Fatalf("fence %d: %v", k, e)
		}
	}
}

func TestOtherOrdersAreNoFence(t *testing.T) {
	for w := 1; w < 4; w++ {
		b := on()
		b.Fences = 999
		if got, e := Obey(ordered(w), b); got.Fences != 999 || e != api.OK {
			t.Errorf("order %d: %d fences, %v", w, got.Fences, e)
		}
	}
	b := on()
	b.Fences = 999
	if got, e := Obey(ordered(0), b); got.Fences != 0 || e != api.OK {
		t.Errorf("a fence: %d fences, %v", got.Fences, e)
	}
}

// TestAStoppedOneObeysNothing: neither a right order nor another bad one, and not
// when there is none.
func TestAStoppedOneObeysNothing(t *testing.T) {
	for _, w := range []int{0, 1, 2, 3, 4, 65535} {
		for tail := range 8 {
			b := of(api.On, full()...)
			b.Stopped, b.Orders.Tail = true, tail
			obeyFails(t, "stopped", ordered(w), b, api.ErrLate)
		}
	}
}

// TestABadOrderStaysWhereItIs: when it isn't stopped any more, it meets the same
// order once more, till another one is there in its place.
func TestABadOrderStaysWhereItIs(t *testing.T) {
	m, b := ordered(34), of(api.On, full()...)
	for range 3 {
		n, e := Obey(m, b)
		if e != api.OK || !n.Stopped {
			t.Fatalf("a bad order: %+v, %v", n, e)
		}
		obeyFails(t, "stopped", m, n, api.ErrLate)
		n.Stopped = false
		if !Same(n, b) {
			t.Fatalf("a bad order: %+v, want %+v", n, b)
		}
		b = n
	}
	obeyIs(t, "another one in its place", ordered(1), b, keeping(17))
}

func TestObeyTellsTheFirst(t *testing.T) {
	for _, stopped := range []bool{false, true} {
		for _, c := range badMems() {
			b := of(api.On, full()...)
			b.Stopped = stopped
			obeyFails(t, c.name, c.m, b, c.want)
			for _, x := range badBridges() {
				x.b.Stopped = stopped
				obeyFails(t, c.name+", "+x.name, c.m, x.b, c.want)
			}
		}
		for _, x := range badBridges() {
			x.b.Stopped = stopped
			obeyFails(t, x.name, ordered(1), x.b, x.want)
			obeyFails(t, x.name+", a bad order", ordered(4), x.b, x.want)
		}
	}
}

func TestOrdersAreObeyedInTurn(t *testing.T) {
	m, b := world(), of(api.On, full()...)
	for k, w := range []int{0, 3 + 4*1, 0, 2, 1, 0, 5} {
		m.W[8*60+(6+k)%8] = w
	}
	b.Orders = api.Ring{Page: 60, Head: 6, Tail: 5}
	for k, want := range []struct{ lines, fences, head int }{{6, 18, 7}, {5, 18, 0}, {5, 19, 1}, {3, 19, 2}, {0, 19, 3}, {0, 20, 4}, {0, 20, 4}} {
		e := api.OK
		if b, e = Obey(m, b); e != api.OK {
			t.Fatalf("order %d: %v", k, e)
		}
		if len(b.Cache) != want.lines || b.Fences != want.fences || b.Orders.Head != want.head || b.Stopped != (k == 6) {
			t.Errorf("order %d: %+v, want %+v", k, b, want)
		}
	}
}
