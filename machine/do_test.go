package machine

import (
	"fmt"
	"math"
	"slices"
	"testing"

	"drawbridge/api"
)

// on is the change of a hart that goes on to the next word.
func on(m *api.Machine) { m.H.At++ }

// reg is a change of a register of the hart.
func reg(k, w int) func(*api.Machine) { return func(m *api.Machine) { m.H.R[k] = w } }

func TestStep(t *testing.T) {
	done := func(m *api.Machine) { m.H.Done = true }
	for _, c := range []struct {
		name   string
		ins    int
		change func(*api.Machine)
	}{
		{"set", put(api.ISet, 3, 0, 9), also(on, reg(3, 9))},
		{"add", put(api.IAdd, 3, 4, 0), also(on, reg(3, 207))},
		{"shift", put(api.IShift, 3, 0, 2), also(on, reg(3, 412))},
		{"load", put(api.ILoad, 3, 4, 9), also(on, reg(3, 40113))},
		{"store", put(api.IStore, 3, 4, 9), also(on, word(113, 103))},
		{"same", put(api.ISame, 3, 3, 9), func(m *api.Machine) { m.H.At = 9 }},
		{"not the same", put(api.ISame, 3, 4, 9), on},
		{"in", put(api.IIn, 3, 0, api.RFences), also(on, reg(3, 517))},
		{"out that can't be done", put(api.IOut, 3, 0, api.RMode), done},
		{"halt", 0, done},
		{"no instruction", 65535, done},
	} {
		m := programmed(c.ins)
		doIs(t, c.name, m, step, c.change, quiet)
		m.B.Cache = full()
		doIs(t, c.name+", with lines", m, step, c.change, quiet)
	}
}

// TestStepSetsTheBridge: the lines stay, whatever else is set.
func TestStepSetsTheBridge(t *testing.T) {
	for _, c := range []struct {
		name        string
		register, w int
		change      func(*api.Machine)
	}{
		{"mode", api.RMode, api.Bare, func(m *api.Machine) { m.B.Mode = api.Bare }},
		{"off", api.RMode, api.Off, func(m *api.Machine) { m.B.Mode = api.Off }},
		{"base", api.RBase, 63, func(m *api.Machine) { m.B.Base = 63 }},
		{"tail of orders", api.RPut, 4, func(m *api.Machine) { m.B.Orders.Tail = 4 }},
		{"head of faults", api.RRead, 5, func(m *api.Machine) { m.B.Faults.Head = 5 }},
		{"state", api.RState, 0, func(m *api.Machine) { m.B.Stopped, m.B.Lost = false, false }},
	} {
		m := programmed(put(api.IOut, 2, 0, c.register))
		m.H.R[2], m.B.Cache, m.B.Stopped, m.B.Lost = c.w, full(), true, true
		doIs(t, c.name, m, step, also(on, c.change), quiet)
	}
}

func TestStepOfAHartThatIsDone(t *testing.T) {
	m := programmed(put(api.ISet, 3, 0, 9))
	m.H.Done = true
	doFails(t, "done", m, step, api.ErrLate)
}

// TestOnlyStepMindsDone: devices and the bridge go on when the hart stands.
func TestOnlyStepMindsDone(t *testing.T) {
	m := ordered(order(api.Fence, 0, 0))
	m.H.Done = true
	doIs(t, "an order", m, obey, func(m *api.Machine) { m.B.Orders.Head, m.B.Fences = 4, 518 }, quiet)
	doIs(t, "an ask", m, reading(2, 300, 1), none, got(2, 300, 300, 40300))
	doIs(t, "a line", m, evict(5), func(m *api.Machine) { m.B.Cache = full()[:5] }, quiet)
}

func TestOrderOfEachKind(t *testing.T) {
	l := full()
	for _, c := range []struct {
		name   string
		w      int
		lines  []api.Line
		fences int
	}{
		{"a fence", order(api.Fence, 0, 0), l, 518},
		{"drop all", order(api.DropAll, 0, 0), nil, 517},
		{"drop a device", order(api.DropDev, 3, 0), []api.Line{l[0], l[1], l[2], l[5]}, 517},
		{"drop a device that has none", order(api.DropDev, 6, 0), l, 517},
		{"drop one", order(api.DropOne, 3, 9), []api.Line{l[0], l[1], l[2], l[3], l[5]}, 517},
		{"drop the first one", order(api.DropOne, 0, 0), l[1:], 517},
		{"drop one that isn't there", order(api.DropOne, 3, 10), l, 517},
	} {
		change := func(m *api.Machine) { m.B.Orders.Head, m.B.Cache, m.B.Fences = 4, c.lines, c.fences }
		doIs(t, c.name, ordered(c.w), obey, change, quiet)
		doIs(t, c.name+", and others behind it", ordered(c.w, 1, 1), obey, change, quiet)
	}
}

func TestOrderThatIsNone(t *testing.T) {
	for _, w := range []int{4, 33, order(api.DropDev, 1, 1), 2048 + 3, 65535} {
		doIs(t, "no order", ordered(w), obey, func(m *api.Machine) { m.B.Stopped = true }, quiet)
	}
}

func TestOrderOutOfTurn(t *testing.T) {
	doFails(t, "none waits", ordered(), obey, api.ErrLate)
	m := ordered(1)
	m.B.Stopped = true
	doFails(t, "stopped", m, obey, api.ErrLate)
	m = ordered()
	m.B.Stopped = true
	doFails(t, "stopped, and none waits", m, obey, api.ErrLate)
}

// Lines that come of world's tables.
var (
	zero = api.Line{Dev: 0, Page: 0, At: 50, Read: true, Write: true}
	one  = api.Line{Dev: 0, Page: 1, At: 51, Read: true}
	nine = api.Line{Dev: 0, Page: 9, At: 17, Read: true, Write: true}
)

func TestAskThatIsLetThrough(t *testing.T) {
	for _, c := range []struct {
		name   string
		m      api.Machine
		x      api.Happening
		change func(*api.Machine)
		say    api.Told
	}{
		{"to read", world(), reading(0, 1, 2), line(zero), got(0, 1, 401, 40401, 40402)},
		{"to write", world(), writing(0, 1, 7, 8), also(line(zero), word(401, 7), word(402, 8)), gave(0, 1, 401, 7, 8)},
		{"to read what isn't to write", world(), reading(0, 15, 1), line(one), got(0, 15, 415, 40415)},
		{"by one table alone", world(), writing(0, 72, 7), also(line(nine), word(136, 7)), gave(0, 72, 136, 7)},
		{"over the end of a page", world(), reading(0, 7, 2), also(line(zero), line(one)), got(0, 7, 407, 40407, 40408)},
		{"memory as it is", world(), writing(2, 511, 65535), word(511, 65535), gave(2, 511, 511, 65535)},
		{"what is remembered", holding(full()...), reading(0, 1, 2), none, got(0, 1, 265, 40265, 40266)},
		{"what is remembered, to write", holding(full()...), writing(0, 1, 9), word(265, 9), gave(0, 1, 265, 9)},
		{"one line too many", holding(full()...), reading(0, 15, 1),
			func(m *api.Machine) { m.B.Cache = append(full()[1:], one) }, got(0, 15, 415, 40415)},
		{"bare", changed(func(m *api.Machine) { m.B.Mode = api.Bare }), reading(3, 20, 2), none, got(3, 20, 20, 0, 0)},
	} {
		doIs(t, c.name, c.m, c.x, c.change, c.say)
	}
}

func TestAskThatIsNot(t *testing.T) {
	off := changed(func(m *api.Machine) { m.B.Mode, m.B.Cache = api.Off, full() })
	for _, c := range []struct {
		name  string
		m     api.Machine
		dev   int
		page  int
		cause [2]int // to read, to write
	}{
		{"off", off, 0, 0, [2]int{api.Shut, api.Shut}},
		{"no context", world(), 3, 0, [2]int{api.NoWay, api.NoWay}},
		{"a bad context", world(), 4, 63, [2]int{api.NoWay, api.NoWay}},
		{"no page", world(), 0, 2, [2]int{api.NoPage, api.NoPage}},
		{"no second table", world(), 0, 24, [2]int{api.NoPage, api.NoPage}},
		{"a bad entry", world(), 0, 3, [2]int{api.BadEntry, api.BadEntry}},
		{"a bad first one", world(), 0, 63, [2]int{api.BadEntry, api.BadEntry}},
		{"no right", world(), 0, 1, [2]int{api.None, api.NoRight}},
		{"no right, as is remembered", holding(full()...), 3, 0, [2]int{api.None, api.NoRight}},
	} {
		for k, x := range []api.Happening{reading(c.dev, 8*c.page+3, 2), writing(c.dev, 8*c.page+3, 1, 2)} {
			if c.cause[k] != api.None {
				doIs(t, c.name, c.m, x, toRing(fault(c.cause[k], c.dev, c.page, k == 1)), refused(c.cause[k]))
			}
		}
	}
}

// TestAskThatGoesSoFar: what it touched ahead of the fault is told, and stays.
func TestAskThatGoesSoFar(t *testing.T) {
	say := gave(0, 6, 406, 7, 8)
	say.Done, say.Fault = false, api.NoRight
	doIs(t, "to write", world(), writing(0, 6, 7, 8, 9),
		also(line(zero), word(406, 7), word(407, 8), toRing(fault(api.NoRight, 0, 1, true))), say)

	say = got(0, 15, 415, 40415)
	say.Done, say.Fault = false, api.NoPage
	doIs(t, "to read", world(), reading(0, 15, 2), also(line(one), toRing(fault(api.NoPage, 0, 2, false))), say)
}

// TestAskWhoseFaultIsLost: with a full ring it makes the bridge Lost, and then
// nothing is changed at all.
func TestAskWhoseFaultIsLost(t *testing.T) {
	m := changed(func(m *api.Machine) { m.B.Faults.Tail = 3 })
	doIs(t, "a full ring", m, reading(3, 0, 1), func(m *api.Machine) { m.B.Lost = true }, refused(api.NoWay))
	m.B.Lost, m.B.Faults.Tail = true, 4
	doIs(t, "lost", m, reading(3, 0, 1), none, refused(api.NoWay))
}

func TestAskThatIsWrong(t *testing.T) {
	for _, c := range []struct {
		name string
		a    api.Ask
		want api.Errno
	}{
		{"nothing", api.Ask{}, api.ErrMany},
		{"less than nothing", api.Ask{Count: -1}, api.ErrMany},
		{"too much", api.Ask{Count: 21}, api.ErrMany},
		{"too much, of no device", api.Ask{Count: 21, Dev: 8, At: -1, Data: []int{-1}}, api.ErrMany},
		{"no device", api.Ask{Count: 1, Dev: 8}, api.ErrWho},
		{"no device either", api.Ask{Count: 1, Dev: -1}, api.ErrWho},
		{"no word", api.Ask{Count: 1, At: 512}, api.ErrWho},
		{"no last word", api.Ask{Count: 2, At: 511}, api.ErrWho},
		{"no word, with words", api.Ask{Count: 1, At: math.MaxInt, Data: []int{-1}}, api.ErrWho},
		{"to read, with words", api.Ask{Count: 1, Data: []int{-1}}, api.ErrForm},
		{"to write, with none", api.Ask{Count: 1, Write: true}, api.ErrForm},
		{"a word too many", api.Ask{Count: 1, Write: true, Data: []int{-1, -1}}, api.ErrForm},
		{"a word that is none", api.Ask{Count: 2, Write: true, Data: []int{1, 65536}}, api.ErrRange},
		{"a word that is none either", api.Ask{Count: 1, Dev: 3, Write: true, Data: []int{-1}}, api.ErrRange},
	} {
		for name, m := range rightMachines() {
			doFails(t, c.name+", "+name, m, api.Happening{Kind: api.HAsk, A: c.a}, c.want)
		}
	}
}

func TestEvictEachLine(t *testing.T) {
	for count := range 7 {
		for n := range count {
			l := full()[:count]
			left := slices.Concat(l[:n], l[n+1:])
			doIs(t, fmt.Sprintf("%d of %d", n, count), holding(l...), evict(n), func(m *api.Machine) { m.B.Cache = left }, quiet)
		}
	}
}

func TestEvictNoLine(t *testing.T) {
	for count := range 7 {
		for _, n := range []int{math.MinInt, -7, -1, count, count + 1, 6, 7, 64, math.MaxInt} {
			doFails(t, fmt.Sprintf("%d of %d", n, count), holding(full()[:count]...), evict(n), api.ErrWho)
		}
	}
	for n := -3; n <= 8; n++ {
		for _, l := range [][]api.Line{nil, {}, full()[:0]} {
			doFails(t, "an empty cache", holding(l...), evict(n), api.ErrWho)
		}
	}
}

// TestEvictInEveryMode: a cache forgets, whether it is asked or not.
func TestEvictInEveryMode(t *testing.T) {
	for mode := api.Off; mode <= api.On; mode++ {
		m := ordered(4)
		m.B.Mode, m.B.Stopped, m.B.Lost = mode, true, true
		doIs(t, "a mode", m, evict(0), func(m *api.Machine) { m.B.Cache = full()[1:] }, quiet)
	}
}

// TestWhatIsEvictedIsByTheTables: what is forgotten is asked of memory again.
func TestWhatIsEvictedIsByTheTables(t *testing.T) {
	m, _, e := Do(holding(full()...), evict(0))
	if e != api.OK {
		t.Fatal(e)
	}
	doIs(t, "forgotten", m, reading(0, 1, 1), line(zero), got(0, 1, 401, 40401))
}

func TestKindThatIsNone(t *testing.T) {
	for _, kind := range []int{math.MinInt, -4, -1, api.HStep - 1, api.HEvict + 1, 6, 7, 64, math.MaxInt} {
		for name, m := range rightMachines() {
			doFails(t, name, m, api.Happening{Kind: kind}, api.ErrForm)
			doFails(t, name+", an ask", m, api.Happening{Kind: kind, N: 1, A: reading(2, 0, 1).A}, api.ErrForm)
			doFails(t, name+", a bad ask, and no line", m, api.Happening{Kind: kind, N: 99, A: api.Ask{Dev: 9}}, api.ErrForm)
		}
	}
}

// TestWhatAKindDoesNotSpeakOf: it doesn't count, be it right or wrong.
func TestWhatAKindDoesNotSpeakOf(t *testing.T) {
	m := ordered(order(api.DropAll, 0, 0))
	m.M.W[96] = put(api.ISet, 3, 0, 9)
	for _, n := range []int{math.MinInt, -1, 0, 5, 6, math.MaxInt} {
		for _, a := range []api.Ask{{}, {Dev: 99, At: -1, Count: 900, Data: []int{-1}}, reading(2, 300, 2).A, writing(2, 300, 1).A} {
			doIs(t, "a step", m, api.Happening{Kind: api.HStep, N: n, A: a}, also(on, reg(3, 9)), quiet)
			doIs(t, "an order", m, api.Happening{Kind: api.HOrder, N: n, A: a},
				func(m *api.Machine) { m.B.Orders.Head, m.B.Cache = 4, nil }, quiet)
			doIs(t, "a line", m, api.Happening{Kind: api.HEvict, N: 5, A: a},
				func(m *api.Machine) { m.B.Cache = full()[:5] }, quiet)
		}
		doIs(t, "an ask", m, api.Happening{Kind: api.HAsk, N: n, A: reading(2, 300, 1).A}, none, got(2, 300, 300, 40300))
	}
}
