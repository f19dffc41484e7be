package dma

import (
	"slices"
	"testing"

	"drawbridge/api"
	"drawbridge/bridge"
)

// after is the step behind another one in a ring, written out.
var after = [8]int{1, 2, 3, 4, 5, 6, 7, 0}

// run is count words from at on.
func run(at, count int) []int {
	l := []int{}
	for k := range count {
		l = append(l, at+k)
	}
	return l
}

// told is what must be told of an ask that touches these words of memory, one for
// each that it asks for till its fault.
func told(m api.Mem, a api.Ask, at []int, fault int) api.Told {
	say := api.Told{Done: fault == api.None, Fault: fault}
	for k, w := range at {
		x := api.Touch{Dev: a.Dev, Seen: a.At + k, At: w, Write: a.Write, Value: m.W[w]}
		if a.Write {
			x.Value = a.Data[k]
		} else {
			say.Data = append(say.Data, m.W[w])
		}
		say.Touched = append(say.Touched, x)
	}
	return say
}

// left is the memory and the bridge that must be left by an ask that touches these
// words, and then has a fault or none.
func left(m api.Mem, b api.Bridge, a api.Ask, at []int, fault int, lines []api.Line) (api.Mem, api.Bridge) {
	n := api.Mem{W: slices.Clone(m.W)}
	for k, w := range at {
		if a.Write {
			n.W[w] = a.Data[k]
		}
	}
	b.Cache = lines
	if fault == api.None || b.Lost {
		return n, b
	}
	if after[b.Faults.Tail] == b.Faults.Head {
		b.Lost = true
		return n, b
	}
	w := fault + 8*a.Dev + 64*((a.At+len(at))/8)
	if a.Write {
		w += 4096
	}
	n.W[8*b.Faults.Page+b.Faults.Tail] = w
	b.Faults.Tail = after[b.Faults.Tail]
	return n, b
}

// doIs asks for touches of these words, a fault or none, and these lines then.
func doIs(t *testing.T, name string, m api.Mem, b api.Bridge, a api.Ask, at []int, fault int, lines []api.Line) {
	t.Helper()
	n, c, say, e := Do(m, b, a)
	if e != api.OK {
		t.Errorf("%s: Do of %+v: %v", name, a, e)
		return
	}
	if want := told(m, a, at, fault); !sameTold(say, want) {
		t.Errorf("%s: Do of %+v tells %+v, want %+v", name, a, say, want)
	}
	words, want := left(m, b, a, at, fault, lines)
	if !slices.Equal(n.W, words.W) {
		t.Errorf("%s: Do of %+v: another memory than it must be", name, a)
	}
	if !bridge.Same(c, want) {
		t.Errorf("%s: Do of %+v: %+v, want %+v", name, a, c, want)
	}
}

// doFails asks for an error, and for nothing else.
func doFails(t *testing.T, name string, m api.Mem, b api.Bridge, a api.Ask, want api.Errno) {
	t.Helper()
	n, c, say, e := Do(m, b, a)
	if e != want {
		t.Errorf("%s: Do of %+v: %v, want %v", name, a, e, want)
	}
	if n.W != nil || c.Cache != nil || !bridge.Same(c, api.Bridge{}) {
		t.Errorf("%s: Do of %+v: an error, and %d words, %+v", name, a, len(n.W), c)
	}
	if say.Data != nil || say.Touched != nil || !sameTold(say, api.Told{}) {
		t.Errorf("%s: Do of %+v: an error, and %+v", name, a, say)
	}
}

// both makes an ask to read and an ask to write of the same words.
func both(dev, at, count int) []api.Ask {
	return []api.Ask{reading(dev, at, count), writing(dev, at, count)}
}

// Lines that come of world's tables.
var (
	zero  = api.Line{Dev: 0, Page: 0, At: 50, Read: true, Write: true}
	one   = api.Line{Dev: 0, Page: 1, At: 48, Read: true, Write: true}
	two   = api.Line{Dev: 0, Page: 2, At: 51, Read: true, Write: true}
	three = api.Line{Dev: 0, Page: 3, At: 49, Read: true}
)

// scattered is where the pages 0 to 3 of device 0 are, word by word.
var scattered = slices.Concat(run(400, 8), run(384, 8), run(408, 8), run(392, 8))

func TestByTheTables(t *testing.T) {
	for _, c := range []struct {
		name      string
		at, count int
		lines     []api.Line
	}{
		{"the first word of a page", 0, 1, []api.Line{zero}},
		{"a word of a page", 5, 1, []api.Line{zero}},
		{"the last word of a page", 7, 1, []api.Line{zero}},
		{"a whole page", 8, 8, []api.Line{one}},
		{"within a page", 9, 6, []api.Line{one}},
		{"up to the end of a page", 5, 3, []api.Line{zero}},
		{"over the end of a page", 5, 4, []api.Line{zero, one}},
		{"the two words at the end of a page", 7, 2, []api.Line{zero, one}},
		{"two whole pages", 0, 16, []api.Line{zero, one}},
		{"over the end of two pages", 7, 10, []api.Line{zero, one, two}},
		{"two pages and a half", 0, 20, []api.Line{zero, one, two}},
		{"as much as may be, within three pages", 4, 20, []api.Line{zero, one, two}},
	} {
		for _, a := range both(0, c.at, c.count) {
			doIs(t, c.name, world(), of(api.On), a, scattered[c.at:c.at+c.count], api.None, c.lines)
		}
	}
	for at := 5; at < 8; at++ {
		doIs(t, "over the end of three pages", world(), of(api.On), reading(0, at, 20), scattered[at:at+20], api.None, []api.Line{zero, one, two, three})
	}
}

// TestAFaultEndsIt: what is ahead of it is done, and what is behind it isn't asked
// for, even where it would be let through.
func TestAFaultEndsIt(t *testing.T) {
	for _, c := range []struct {
		name  string
		a     api.Ask
		at    []int
		fault int
		lines []api.Line
	}{
		{"at the last of four pages", writing(0, 5, 20), scattered[5:24], api.NoRight, []api.Line{zero, one, two}},
		{"at the last of four pages, with more words of it", writing(0, 7, 20), scattered[7:24], api.NoRight, []api.Line{zero, one, two}},
		{"at the last of four pages, to read", reading(0, 13, 20), scattered[13:32], api.NoPage, []api.Line{one, two, three}},
		{"at the third page", writing(0, 8, 20), scattered[8:24], api.NoRight, []api.Line{one, two}},
		{"at the third of four pages", writing(0, 15, 20), scattered[15:24], api.NoRight, []api.Line{one, two}},
		{"at the second page", reading(0, 31, 2), scattered[31:], api.NoPage, []api.Line{three}},
		{"at the second page, to write", writing(0, 16, 10), scattered[16:24], api.NoRight, []api.Line{two}},
		{"at the second of four pages", reading(0, 31, 18), scattered[31:], api.NoPage, []api.Line{three}},
		{"at the first page", reading(0, 32, 1), nil, api.NoPage, nil},
		{"at the first page, to write", writing(0, 24, 1), nil, api.NoRight, nil},
		{"at the first page, with others behind it", reading(0, 39, 20), nil, api.NoPage, nil},
		{"at the first page, with a right one behind it", reading(0, 47, 2), nil, api.BadEntry, nil},
		{"at the first page, with right ones behind it, to write", writing(0, 41, 20), nil, api.BadEntry, nil},
	} {
		doIs(t, c.name, world(), of(api.On), c.a, c.at, c.fault, c.lines)
	}
}

// TestEveryFault: each fault that the bridge has is told as it is.
func TestEveryFault(t *testing.T) {
	for _, c := range []struct {
		name      string
		dev, page int
		fault     int
	}{
		{"no context", 3, 0, api.NoWay},
		{"a context that isn't valid", 4, 63, api.NoWay},
		{"no context that may be", 5, 7, api.NoWay},
		{"no page", 0, 4, api.NoPage},
		{"no eight pages", 0, 39, api.NoPage},
		{"no entry", 0, 5, api.BadEntry},
		{"a place that may not be", 0, 24, api.BadEntry},
		{"no entry of eight pages", 7, 55, api.BadEntry},
		{"no right", 0, 40, api.NoRight},
	} {
		for count := 1; count <= 20 && 8*c.page+count <= 512; count++ {
			for _, a := range both(c.dev, 8*c.page, count) {
				doIs(t, c.name, world(), of(api.On), a, nil, c.fault, nil)
			}
		}
	}
	for count := 1; count <= 20; count++ {
		doIs(t, "no right to write", world(), of(api.On), writing(7, 8*16, count), nil, api.NoRight, nil)
	}
}

func TestEightPagesAtOnce(t *testing.T) {
	l := []api.Line{{Dev: 7, Page: 14, At: 22, Read: true, Write: true}, {Dev: 7, Page: 15, At: 23, Read: true, Write: true}}
	last := api.Line{Dev: 7, Page: 16, At: 24, Read: true}
	doIs(t, "to read", world(), of(api.On), reading(7, 115, 20), run(179, 20), api.None, append(slices.Clone(l), last))
	doIs(t, "to write", world(), of(api.On), writing(7, 115, 20), run(179, 13), api.NoRight, l)
	doIs(t, "to write, up to there", world(), of(api.On), writing(7, 115, 13), run(179, 13), api.None, l)
}

// TestByAContextThatPasses: memory is as it is, and nothing of it is remembered.
func TestByAContextThatPasses(t *testing.T) {
	for _, dev := range []int{2, 6} {
		for _, at := range []int{0, 5, 7, 100, 397, 492} {
			for _, count := range []int{1, 8, 19, 20} {
				for _, a := range both(dev, at, count) {
					doIs(t, "as it is", world(), of(api.On), a, run(at, count), api.None, nil)
				}
			}
		}
	}
}

// TestByTheCache: what is remembered counts, whatever the tables say; what isn't is
// asked of them.
func TestByTheCache(t *testing.T) {
	l := full()
	for _, c := range []struct {
		name  string
		a     api.Ask
		at    []int
		fault int
		lines []api.Line
	}{
		{"a page", reading(0, 2, 3), run(266, 3), api.None, l},
		{"a page, to write", writing(0, 2, 3), run(266, 3), api.None, l},
		{"two pages", reading(0, 6, 4), []int{270, 271, 280, 281}, api.None, l},
		{"two pages, and the second isn't to write", writing(0, 6, 4), []int{270, 271}, api.NoRight, l},
		{"a page that isn't to write, though the tables say so", writing(0, 8, 4), nil, api.NoRight, l},
		{"a page that the tables don't have", reading(0, 36, 4), run(276, 4), api.None, l},
		{"that page, to write", writing(0, 36, 4), nil, api.NoRight, l},
		{"that page, and one that isn't remembered", reading(0, 39, 4), run(279, 1), api.BadEntry, l},
		{"a device with no context", writing(3, 0, 8), run(288, 8), api.None, l},
		{"that device, and a page that isn't remembered", writing(3, 1, 8), run(289, 7), api.NoWay, l},
		{"a device that sees memory as it is", reading(2, 7, 10), slices.Concat(run(7, 1), run(296, 8), run(16, 1)), api.None, l},
		{"the last page", reading(7, 511, 1), run(311, 1), api.None, l},
		{"the last page, to write", writing(7, 504, 8), nil, api.NoRight, l},
		{"two pages and one that is remembered by now", reading(0, 7, 10), slices.Concat(run(271, 1), run(280, 8), run(408, 1)), api.None, append(slices.Clone(l[1:]), two)},
		{"more pages than are forgotten", reading(0, 15, 17), slices.Concat(run(287, 1), scattered[16:]), api.None, append(slices.Clone(l[2:]), two, three)},
	} {
		doIs(t, c.name, world(), of(api.On, l...), c.a, c.at, c.fault, c.lines)
	}
}

// TestALineThatGoesWhileItIsAskedFor: what the burst itself makes the bridge forget
// is by the tables again.
func TestALineThatGoesWhileItIsAskedFor(t *testing.T) {
	l := slices.Concat([]api.Line{{Dev: 0, Page: 2, At: 33, Read: true, Write: true}}, full()[1:2], full()[3:], []api.Line{{Dev: 6, Page: 6, At: 6, Read: true}})
	want := slices.Concat(l[2:], []api.Line{one, two})
	for _, a := range both(0, 15, 2) {
		doIs(t, "forgotten ahead of its page", world(), of(api.On, l...), a, scattered[15:17], api.None, want)
	}
	for _, a := range both(0, 16, 2) {
		doIs(t, "not forgotten", world(), of(api.On, l...), a, run(264, 2), api.None, l)
	}
}

func TestOff(t *testing.T) {
	for _, l := range [][]api.Line{nil, full()} {
		for dev := range 8 {
			for _, at := range []int{0, 5, 40, 492} {
				for _, count := range []int{1, 20} {
					for _, a := range both(dev, at, count) {
						doIs(t, "off", world(), of(api.Off, l...), a, nil, api.Shut, l)
					}
				}
			}
		}
	}
}

func TestBare(t *testing.T) {
	for _, l := range [][]api.Line{nil, full()} {
		for dev := range 8 {
			for count := 1; count <= 20; count++ {
				for at := 0; at <= 512-count; at += 7 {
					doIs(t, "bare", world(), of(api.Bare, l...), reading(dev, at, count), run(at, count), api.None, l)
					doIs(t, "bare", world(), of(api.Bare, l...), writing(dev, at, count), run(at, count), api.None, l)
				}
				at := 512 - count
				doIs(t, "bare, the last words", world(), of(api.Bare, l...), reading(dev, at, count), run(at, count), api.None, l)
				doIs(t, "bare, the last words", world(), of(api.Bare, l...), writing(dev, at, count), run(at, count), api.None, l)
			}
		}
	}
}

func TestWordsOfEverySize(t *testing.T) {
	for _, w := range []int{0, 1, 255, 32768, 65534, 65535} {
		a := api.Ask{Dev: 2, At: 300, Count: 1, Write: true, Data: []int{w}}
		doIs(t, "a word", world(), of(api.On), a, run(300, 1), api.None, nil)
		m := world()
		m.W[300] = w
		doIs(t, "a word", m, of(api.On), reading(2, 300, 1), run(300, 1), api.None, nil)
	}
}

// TestTwoPagesAtOnePlace: the words that are written last are left, and each touch
// has what was there then.
func TestTwoPagesAtOnePlace(t *testing.T) {
	at := slices.Concat(run(403, 5), run(400, 8))
	lines := []api.Line{{Dev: 0, Page: 6, At: 50, Read: true, Write: true}, {Dev: 0, Page: 7, At: 50, Read: true, Write: true}}
	for _, a := range both(0, 51, 13) {
		doIs(t, "two pages at one place", world(), of(api.On), a, at, api.None, lines)
	}
	m, _, say, _ := Do(world(), of(api.On), writing(0, 51, 13))
	if m.W[403] != 20009 || say.Touched[0].Value != 20001 || say.Touched[8].Value != 20009 {
		t.Errorf("word 403 is %d, the touches of it are %+v, %+v", m.W[403], say.Touched[0], say.Touched[8])
	}
}

// rewriting is an ask of device 1 to write a page of tables, as memory has it but for one
// word, and four words behind it.
func rewriting(m api.Mem, seen, place, word, w int) api.Ask {
	a := api.Ask{Dev: 1, At: seen, Count: 12, Write: true}
	a.Data = append(slices.Clone(m.W[place:place+8]), 30001, 30002, 30003, 30004)
	a.Data[word-place] = w
	return a
}

// TestABurstWritesItsTables: its later pages go by what it has written, but for those
// that are remembered.
func TestABurstWritesItsTables(t *testing.T) {
	first := api.Line{Dev: 1, Page: 57, At: 9, Read: true, Write: true}
	for _, c := range []struct {
		name      string
		w         int
		at, fault int
		lines     []api.Line
	}{
		{"as it was", 15 + 16*8, 80, api.None, []api.Line{{Dev: 1, Page: 58, At: 10, Read: true, Write: true}}},
		{"elsewhere", 15 + 16*32, 272, api.None, []api.Line{{Dev: 1, Page: 58, At: 34, Read: true, Write: true}}},
		{"nowhere", 0, 0, api.NoPage, nil},
		{"not to write", 11 + 16*32, 0, api.NoRight, nil},
		{"no entry", 3, 0, api.BadEntry, nil},
		{"by a table", 1 + 16*8, 408, api.None, []api.Line{{Dev: 1, Page: 58, At: 51, Read: true, Write: true}}},
	} {
		m := world()
		a := rewriting(m, 8*57, 72, 79, c.w)
		at := run(72, 8)
		if c.fault == api.None {
			at = append(at, run(c.at, 4)...)
		}
		doIs(t, c.name, m, of(api.On), a, at, c.fault, append([]api.Line{first}, c.lines...))

		known := api.Line{Dev: 1, Page: 58, At: 45, Read: true, Write: true}
		at = append(run(72, 8), run(360, 4)...)
		doIs(t, c.name+", but remembered", m, of(api.On, known), a, at, api.None, []api.Line{known, first})
	}
}

func TestABurstWritesItsContext(t *testing.T) {
	first := api.Line{Dev: 1, Page: 5, At: 5, Read: true, Write: true}
	for _, c := range []struct {
		name      string
		w         int
		at, fault int
		lines     []api.Line
	}{
		{"as it was", 1 + 16*9, 48, api.None, []api.Line{{Dev: 1, Page: 6, At: 6, Read: true, Write: true}}},
		{"other tables", 1 + 16*6, 400, api.None, []api.Line{{Dev: 1, Page: 6, At: 50, Read: true, Write: true}}},
		{"memory as it is", 3, 48, api.None, nil},
		{"none", 0, 0, api.NoWay, nil},
		{"none that may be", 5, 0, api.NoWay, nil},
	} {
		m := world()
		at := run(40, 8)
		if c.fault == api.None {
			at = append(at, run(c.at, 4)...)
		}
		doIs(t, c.name, m, of(api.On), rewriting(m, 40, 40, 41, c.w), at, c.fault, append([]api.Line{first}, c.lines...))
	}
}

// TestAPageIsAskedForOnce: the words of a page that was let through are touched, even
// when the burst has written by then that it may not have that page.
func TestAPageIsAskedForOnce(t *testing.T) {
	m := world()
	a := rewriting(m, 40, 40, 42, 0)
	a.Dev = 2
	doIs(t, "a context that goes", m, of(api.On), a, run(40, 8), api.NoWay, nil)
	a.Count, a.Data = 8, a.Data[:8]
	doIs(t, "a context that goes, within a page", m, of(api.On), a, run(40, 8), api.None, nil)
	a = rewriting(m, 8*57, 72, 79, 0)
	a.Count, a.Data = 8, a.Data[:8]
	doIs(t, "an entry that goes", m, of(api.On), a, run(72, 8), api.None, []api.Line{{Dev: 1, Page: 57, At: 9, Read: true, Write: true}})
}

// TestAnotherDevicesTables: a burst may write these, too; what is remembered by them
// stays.
func TestAnotherDevicesTables(t *testing.T) {
	m, b, say, e := Do(world(), of(api.On, zero), rewriting(world(), 8*56, 64, 64, 0))
	if e != api.OK || !say.Done {
		t.Fatalf("a table that is written: %+v, %v", say, e)
	}
	doIs(t, "remembered", m, b, reading(0, 0, 1), run(400, 1), api.None, b.Cache)
	b.Cache = nil
	doIs(t, "forgotten", m, b, reading(0, 0, 1), nil, api.NoPage, nil)
}

// TestABurstWritesItsRing: the fault that ends it is put over what it wrote there.
func TestABurstWritesItsRing(t *testing.T) {
	lines := []api.Line{{Dev: 1, Page: 14, At: 62, Read: true, Write: true}, {Dev: 1, Page: 15, At: 63, Read: true, Write: true}}
	for _, place := range []int{62, 63} {
		for head := range 8 {
			for tail := range 8 {
				for _, lost := range []bool{false, true} {
					for _, a := range both(1, 112, 17) {
						b := of(api.On)
						b.Faults, b.Lost = api.Ring{Page: place, Head: head, Tail: tail}, lost
						doIs(t, "its ring", world(), b, a, run(496, 16), api.NoPage, lines)
					}
				}
			}
		}
	}
	m, _, _, _ := Do(world(), with(func(b *api.Bridge) { b.Faults = api.Ring{Page: 63, Head: 6, Tail: 6} }), writing(1, 112, 17))
	if !slices.Equal(m.W[508:], []int{20013, 20014, 3 + 8*1 + 64*16 + 4096, 20016}) {
		t.Errorf("the ring's last words are %v", m.W[508:])
	}
}

// TestTheRingOfFaults: of every ring that there is, at the first page and behind
// others.
func TestTheRingOfFaults(t *testing.T) {
	for head := range 8 {
		for tail := range 8 {
			for _, lost := range []bool{false, true} {
				for _, stopped := range []bool{false, true} {
					b := of(api.On)
					b.Faults, b.Lost, b.Stopped = api.Ring{Page: 61, Head: head, Tail: tail}, lost, stopped
					doIs(t, "at the first page", world(), b, reading(3, 77, 3), nil, api.NoWay, nil)
					doIs(t, "at the last page", world(), b, writing(0, 5, 20), scattered[5:24], api.NoRight, []api.Line{zero, one, two})
					doIs(t, "no fault", world(), b, writing(0, 5, 19), scattered[5:24], api.None, []api.Line{zero, one, two})
				}
			}
		}
	}
}

// TestFaultsOneAfterTheOther: seven are told, and then they are lost.
func TestFaultsOneAfterTheOther(t *testing.T) {
	m, b := world(), of(api.On)
	b.Faults = api.Ring{Page: 61, Head: 5, Tail: 5}
	for k := range 9 {
		n, c, say, e := Do(m, b, writing(3, 8*k, 1))
		if e != api.OK || say.Fault != api.NoWay || c.Lost != (k >= 7) {
			t.Fatalf("fault %d: %+v, %+v, %v", k, say, c, e)
		}
		m, b = n, c
	}
	for k := range 7 {
		if w := m.W[61*8+(5+k)%8]; w != 2+8*3+64*k+4096 {
			t.Errorf("fault %d is told as %d", k, w)
		}
	}
	if w := m.W[61*8+4]; w != 10000+61*8+4 {
		t.Errorf("the word that stays free is %d", w)
	}
}

// byWords is Do, told word by word.
func byWords(m api.Mem, b api.Bridge, a api.Ask) (api.Mem, api.Bridge, api.Told) {
	n, say, at := api.Mem{W: slices.Clone(m.W)}, api.Told{}, 0
	for k := range a.Count {
		seen := a.At + k
		if k == 0 || seen%8 == 0 {
			b, at, say.Fault, _ = bridge.Through(n, b, a.Dev, seen/8, a.Write)
			if say.Fault != api.None {
				n, b, _ = bridge.Tell(n, b, api.Fault{Cause: say.Fault, Dev: a.Dev, Page: seen / 8, Write: a.Write})
				return n, b, say
			}
		}
		w := &n.W[8*at+seen%8]
		if a.Write {
			*w = a.Data[k]
		} else {
			say.Data = append(say.Data, *w)
		}
		say.Touched = append(say.Touched, api.Touch{Dev: a.Dev, Seen: seen, At: 8*at + seen%8, Write: a.Write, Value: *w})
	}
	say.Done = true
	return n, b, say
}

// TestEveryAsk: of all devices, from every word on.
func TestEveryAsk(t *testing.T) {
	for name, b := range map[string]api.Bridge{
		"off": of(api.Off, full()...), "bare": of(api.Bare), "on": of(api.On), "on and full": of(api.On, full()...),
	} {
		for _, count := range []int{1, 9, 20} {
			for at := range 513 - count {
				for dev := range 8 {
					for _, a := range both(dev, at, count) {
						m, c, say, e := Do(world(), b, a)
						n, d, want := byWords(world(), b, a)
						if e != api.OK || !sameTold(say, want) || !slices.Equal(m.W, n.W) || !bridge.Same(c, d) {
							t.Errorf("%s: Do of %+v: %+v, %v, want %+v", name, a, say, e, want)
						}
					}
				}
			}
		}
	}
}

// TestWithNothingRemembered: what a device reads it may have, as memory says.
func TestWithNothingRemembered(t *testing.T) {
	for dev := range 8 {
		for at := range 493 {
			_, _, say, _ := Do(world(), of(api.On), reading(dev, at, 20))
			for _, x := range say.Touched {
				place, fault, e := bridge.Plain(world(), of(api.On), dev, x.Seen/8, false)
				if e != api.OK || fault != api.None || x.At != 8*place+x.Seen%8 {
					t.Errorf("device %d touches %+v, and memory says page %d, fault %d", dev, x, place, fault)
				}
			}
		}
	}
}

// TestWhatIsWrittenIsRead: by the same device and by one that sees memory as it is.
func TestWhatIsWrittenIsRead(t *testing.T) {
	for count := 1; count <= 19; count++ {
		a := writing(0, 24-count, count)
		m, b, _, _ := Do(world(), of(api.On), a)
		_, _, say, e := Do(m, b, reading(0, 24-count, count))
		if e != api.OK || !say.Done || !slices.Equal(say.Data, a.Data) {
			t.Errorf("%d words: %+v, %v, want %v", count, say, e, a.Data)
		}
		for k, x := range say.Touched {
			if _, _, say, _ := Do(m, b, reading(2, x.At, 1)); !slices.Equal(say.Data, a.Data[k:k+1]) {
				t.Errorf("word %d of memory: %v, want %d", x.At, say.Data, a.Data[k])
			}
		}
	}
}

func TestDoRefusesAsks(t *testing.T) {
	for name, b := range map[string]api.Bridge{
		"off": of(api.Off, full()...), "bare": of(api.Bare), "on": of(api.On, full()...),
		"lost": with(func(b *api.Bridge) { b.Lost = true }), "stopped": with(func(b *api.Bridge) { b.Stopped = true }),
	} {
		for _, c := range badAsks() {
			doFails(t, name+", "+c.name, world(), b, c.a, c.want)
		}
	}
}

// firstAsks are asks with each error, one with a fault at its first page, one with a
// fault behind others, and one with none.
func firstAsks() []api.Ask {
	return []api.Ask{
		{}, reading(8, 0, 1), reading(0, 511, 2), {Count: 1, Write: true}, {Count: 1, Data: []int{1}},
		{Count: 1, Write: true, Data: []int{-1}}, {Count: 21, Dev: 8, At: -1, Write: true, Data: []int{-1}},
		reading(3, 8, 1), writing(0, 5, 20), reading(2, 400, 1), writing(2, 400, 1),
	}
}

func TestMemoryIsToldAheadOfAll(t *testing.T) {
	for _, c := range badMems() {
		for _, a := range firstAsks() {
			for mode := api.Off; mode <= api.On; mode++ {
				doFails(t, c.name, c.m, of(mode, full()...), a, c.want)
			}
			for _, x := range badBridges() {
				doFails(t, c.name+", "+x.name, c.m, x.b, a, c.want)
			}
		}
	}
}

func TestBridgeIsToldAheadOfTheAsk(t *testing.T) {
	for _, x := range badBridges() {
		for _, a := range firstAsks() {
			doFails(t, x.name, world(), x.b, a, x.want)
		}
	}
}
