package bridge

import (
	"slices"
	"testing"

	"drawbridge/api"
	"drawbridge/walk"
)

// answer is what a way through tells beside the bridge.
type answer struct {
	at, fault int
	e         api.Errno
}

func comes(at int) answer      { return answer{at: at} }
func faulty(fault int) answer  { return answer{fault: fault} }
func wrong(e api.Errno) answer { return answer{e: e} }
func isTo(write bool) string   { return map[bool]string{false: "to read", true: "to write"}[write] }
func both(a answer) [2]answer  { return [2]answer{a, a} }
func index(write bool) (k int) {
	if write {
		k = 1
	}
	return k
}

func throughOf(m api.Mem, b api.Bridge, dev, page int, write bool) (api.Bridge, answer) {
	n, at, fault, e := Through(m, b, dev, page, write)
	return n, answer{at, fault, e}
}

func plainOf(m api.Mem, b api.Bridge, dev, page int, write bool) answer {
	at, fault, e := Plain(m, b, dev, page, write)
	return answer{at, fault, e}
}

// throughIs asks what comes of it, and for a bridge that differs in its lines alone.
func throughIs(t *testing.T, name string, m api.Mem, b api.Bridge, dev, page int, write bool, want answer, lines []api.Line) {
	t.Helper()
	n, got := throughOf(m, b, dev, page, write)
	if got != want {
		t.Errorf("%s: device %d, page %d, %s: %+v, want %+v", name, dev, page, isTo(write), got, want)
	}
	b.Cache = lines
	if want.e == api.OK && !Same(n, b) {
		t.Errorf("%s: device %d, page %d, %s: %+v, want %+v", name, dev, page, isTo(write), n, b)
	}
	if want.e != api.OK && !isZero(n) {
		t.Errorf("%s: device %d, page %d, %s: an error, and %+v", name, dev, page, isTo(write), n)
	}
}

func plainIs(t *testing.T, name string, m api.Mem, b api.Bridge, dev, page int, write bool, want answer) {
	t.Helper()
	if got := plainOf(m, b, dev, page, write); got != want {
		t.Errorf("%s: plain, device %d, page %d, %s: %+v, want %+v", name, dev, page, isTo(write), got, want)
	}
}

// ways are what memory alone says of world, and the line that is remembered of it
// where there is one; first to read, then to write.
var ways = []struct {
	name      string
	dev, page int
	want      [2]answer
	line      api.Line
}{
	{"two tables", 0, 0, both(comes(50)), api.Line{At: 50, Read: true, Write: true}},
	{"two tables, to read alone", 0, 1, [2]answer{comes(51), faulty(api.NoRight)}, api.Line{Page: 1, At: 51, Read: true}},
	{"two tables, with no right", 0, 2, both(faulty(api.NoRight)), api.Line{}},
	{"one table too many", 0, 3, both(faulty(api.BadEntry)), api.Line{}},
	{"nowhere, by the second table", 0, 4, both(faulty(api.NoPage)), api.Line{}},
	{"no entry in the second table", 0, 5, both(faulty(api.BadEntry)), api.Line{}},
	{"at page 0", 0, 6, both(comes(0)), api.Line{Page: 6, At: 0, Read: true, Write: true}},
	{"at page 63", 0, 7, both(comes(63)), api.Line{Page: 7, At: 63, Read: true, Write: true}},
	{"first of a great leaf", 0, 8, both(comes(16)), api.Line{Page: 8, At: 16, Read: true, Write: true}},
	{"last of a great leaf", 0, 15, both(comes(23)), api.Line{Page: 15, At: 23, Read: true, Write: true}},
	{"great leaf to read alone", 0, 18, [2]answer{comes(26), faulty(api.NoRight)}, api.Line{Page: 18, At: 26, Read: true}},
	{"great leaf at a bad place", 0, 24, both(faulty(api.BadEntry)), api.Line{}},
	{"nowhere, by the first table", 0, 39, both(faulty(api.NoPage)), api.Line{}},
	{"great leaf with no right", 0, 40, both(faulty(api.NoRight)), api.Line{}},
	{"no entry in the first table", 0, 48, both(faulty(api.BadEntry)), api.Line{}},
	{"nowhere, by another second table", 0, 56, both(faulty(api.NoPage)), api.Line{}},
	{"the last page", 0, 63, [2]answer{comes(62), faulty(api.NoRight)}, api.Line{Page: 63, At: 62, Read: true}},

	{"another device, to read", 1, 0, [2]answer{comes(56), faulty(api.NoRight)}, api.Line{Dev: 1, At: 56, Read: true}},
	{"another device, the last page", 1, 63, both(comes(15)), api.Line{Dev: 1, Page: 63, At: 15, Read: true, Write: true}},
	{"another device, nowhere", 1, 8, both(faulty(api.NoPage)), api.Line{}},

	{"memory as it is, page 0", 2, 0, both(comes(0)), api.Line{}},
	{"memory as it is, page 9", 2, 9, both(comes(9)), api.Line{}},
	{"memory as it is, page 63", 2, 63, both(comes(63)), api.Line{}},

	{"a context of nothing", 3, 0, both(faulty(api.NoWay)), api.Line{}},
	{"a context that isn't valid", 4, 0, both(faulty(api.NoWay)), api.Line{}},
	{"a context with a bit that may not be", 5, 0, both(faulty(api.NoWay)), api.Line{}},
	{"a context of both ways", 6, 0, both(faulty(api.NoWay)), api.Line{}},
	{"a context of nothing, the last page", 3, 63, both(faulty(api.NoWay)), api.Line{}},

	{"the last device", 7, 0, both(comes(40)), api.Line{Dev: 7, At: 40, Read: true, Write: true}},
	{"a table that is gone through twice", 7, 56, both(comes(40)), api.Line{Dev: 7, Page: 56, At: 40, Read: true, Write: true}},
	{"a table of itself", 7, 63, both(faulty(api.BadEntry)), api.Line{}},
}

func TestThroughWithNothingRemembered(t *testing.T) {
	for _, c := range ways {
		for _, write := range []bool{false, true} {
			want := c.want[index(write)]
			var lines []api.Line
			if c.line.Read && want.fault == api.None {
				lines = []api.Line{c.line}
			}
			throughIs(t, c.name, world(), on(), c.dev, c.page, write, want, lines)
			plainIs(t, c.name, world(), on(), c.dev, c.page, write, want)
		}
	}
}

// others are lines of no way of world's: behind them a new one is put.
func others(n int) []api.Line {
	l := []api.Line{}
	for k := range n {
		l = append(l, api.Line{Dev: 6, Page: 20 + k, At: 30 + k, Read: true, Write: k%2 == 0})
	}
	return l
}

// TestThroughWithOthersRemembered: a new line is put behind the others; where there
// is no room, the first of them goes.
func TestThroughWithOthersRemembered(t *testing.T) {
	for n := range 7 {
		for _, c := range ways {
			for _, write := range []bool{false, true} {
				want := c.want[index(write)]
				lines := others(n)
				if c.line.Read && want.fault == api.None {
					lines = append(lines, c.line)
				}
				if len(lines) == 7 {
					lines = lines[1:]
				}
				throughIs(t, c.name, world(), of(api.On, others(n)...), c.dev, c.page, write, want, lines)
				plainIs(t, c.name, world(), of(api.On, others(n)...), c.dev, c.page, write, want)
			}
		}
	}
}

// TestThroughByALine: a line counts, wherever it stands and whatever memory says;
// nothing is filled in for it, and no line moves.
func TestThroughByALine(t *testing.T) {
	for k, x := range full() {
		toWrite := comes(x.At)
		if !x.Write {
			toWrite = faulty(api.NoRight)
		}
		throughIs(t, "a line of a full cache", world(), of(api.On, full()...), x.Dev, x.Page, false, comes(x.At), full())
		throughIs(t, "a line of a full cache", world(), of(api.On, full()...), x.Dev, x.Page, true, toWrite, full())
		alone := full()[k : k+1]
		throughIs(t, "a line alone", world(), of(api.On, alone...), x.Dev, x.Page, false, comes(x.At), alone)
		throughIs(t, "a line alone", world(), of(api.On, alone...), x.Dev, x.Page, true, toWrite, alone)
		throughIs(t, "a line, in memory of noughts", api.Mem{W: make([]int, 512)}, of(api.On, full()...), x.Dev, x.Page, false, comes(x.At), full())
		throughIs(t, "a line, in memory of noughts", api.Mem{W: make([]int, 512)}, of(api.On, full()...), x.Dev, x.Page, true, toWrite, full())
	}
}

// TestALineOfEveryPlace: At of a line, from the first page to the last.
func TestALineOfEveryPlace(t *testing.T) {
	for at := range 64 {
		for _, may := range []bool{false, true} {
			x := api.Line{Dev: 3, Page: 12, At: at, Read: true, Write: may}
			throughIs(t, "a line", world(), of(api.On, x), 3, 12, false, comes(at), []api.Line{x})
			want := faulty(api.NoRight)
			if may {
				want = comes(at)
			}
			throughIs(t, "a line", world(), of(api.On, x), 3, 12, true, want, []api.Line{x})
		}
	}
}

// TestPlainAsksNoLine: with lines that say otherwise than memory, plain tells what
// memory says.
func TestPlainAsksNoLine(t *testing.T) {
	for _, c := range ways {
		for _, write := range []bool{false, true} {
			x := api.Line{Dev: c.dev, Page: c.page, At: 29, Read: true, Write: true}
			plainIs(t, c.name, world(), of(api.On, x), c.dev, c.page, write, c.want[index(write)])
			x.Write = false
			plainIs(t, c.name, world(), of(api.On, x), c.dev, c.page, write, c.want[index(write)])
		}
	}
}

// TestOffAndBare: whatever is remembered and whatever memory says.
func TestOffAndBare(t *testing.T) {
	for _, m := range []api.Mem{world(), {W: make([]int, 512)}, {W: slices.Repeat([]int{65535}, 512)}} {
		for _, lines := range [][]api.Line{nil, full()[:1], full()} {
			for dev := range 8 {
				for page := range 64 {
					for _, write := range []bool{false, true} {
						throughIs(t, "off", m, of(api.Off, lines...), dev, page, write, faulty(api.Shut), lines)
						plainIs(t, "off", m, of(api.Off, lines...), dev, page, write, faulty(api.Shut))
						throughIs(t, "bare", m, of(api.Bare, lines...), dev, page, write, comes(page), lines)
						plainIs(t, "bare", m, of(api.Bare, lines...), dev, page, write, comes(page))
					}
				}
			}
		}
	}
}

// TestStateDoesNotCount: that orders stopped or faults were lost shuts nobody out.
func TestStateDoesNotCount(t *testing.T) {
	for _, c := range ways {
		b := on()
		b.Stopped, b.Lost, b.Fences = true, true, 999
		b.Orders, b.Faults = api.Ring{Page: 5, Head: 7}, api.Ring{Page: 6, Tail: 7}
		if _, got := throughOf(world(), b, c.dev, c.page, false); got != c.want[0] {
			t.Errorf("%s, stopped and lost: %+v, want %+v", c.name, got, c.want[0])
		}
		plainIs(t, c.name, world(), b, c.dev, c.page, false, c.want[0])
	}
}

// TestEveryBaseAndDevice: the context stands at a place of its own; all others say
// otherwise.
func TestEveryBaseAndDevice(t *testing.T) {
	for base := range 64 {
		for dev := range 8 {
			b := on()
			b.Base = base
			m := api.Mem{W: slices.Repeat([]int{3}, 512)}
			m.W[8*base+dev] = 0
			throughIs(t, "no context among those that pass", m, b, dev, 44, true, faulty(api.NoWay), nil)
			m = api.Mem{W: make([]int, 512)}
			m.W[8*base+dev] = 3
			throughIs(t, "a context that passes among none", m, b, dev, 44, true, comes(44), nil)
		}
	}
}

// TestEveryContext goes through every word, with tables at each page that say which
// page they are at.
func TestEveryContext(t *testing.T) {
	m := api.Mem{W: make([]int, 512)}
	for page := range 64 {
		m.W[8*page+7] = 15 + 16*(page/8*8) // read as the entry of pages 56 to 63
	}
	b := on()
	b.Base = 20
	for w := 0; w <= 65535; w++ {
		m.W[163] = w
		want, lines := faulty(api.NoWay), []api.Line(nil)
		switch {
		case w == 3:
			want = comes(58)
		case w%16 == 1 && w < 1024:
			want = comes(w/16/8*8 + 2)
			lines = []api.Line{{Dev: 3, Page: 58, At: want.at, Read: true, Write: true}}
		}
		throughIs(t, "a context", m, b, 3, 58, true, want, lines)
		if t.Failed() {
			t.Fatalf("the context was %d", w)
		}
	}
}

// byWalk is what memory says, and what is remembered of it, by the tables of a
// context that is worked out here.
func byWalk(m api.Mem, base, dev, page int, write bool) (answer, []api.Line) {
	w := m.W[8*base+dev]
	if w == 3 {
		return comes(page), nil
	}
	if w%16 != 1 || w > 1023 {
		return faulty(api.NoWay), nil
	}
	x, fault, _ := walk.Walk(m, w/16, page, write)
	if fault != api.None {
		return faulty(fault), nil
	}
	return comes(x.Page), []api.Line{{Dev: dev, Page: page, At: x.Page, Read: x.Read, Write: x.Write}}
}

// TestEveryDeviceAndPage: of world, by every base, as some of its pages are
// directories, too, if they are taken for such.
func TestEveryDeviceAndPage(t *testing.T) {
	for base := range 64 {
		b := on()
		b.Base = base
		for dev := range 8 {
			for page := range 64 {
				for _, write := range []bool{false, true} {
					want, lines := byWalk(world(), base, dev, page, write)
					throughIs(t, "world", world(), b, dev, page, write, want, lines)
					plainIs(t, "world", world(), b, dev, page, write, want)
				}
			}
		}
	}
}

// TestEveryLeaf goes through every word that the second table may have.
func TestEveryLeaf(t *testing.T) {
	m := world()
	for w := 0; w <= 65535; w++ {
		m.W[64] = w
		for _, write := range []bool{false, true} {
			want, lines := byWalk(m, 5, 0, 0, write)
			throughIs(t, "a leaf", m, on(), 0, 0, write, want, lines)
		}
		if t.Failed() {
			t.Fatalf("the entry was %d", w)
		}
	}
}

func TestEdgesOfDeviceAndPage(t *testing.T) {
	m := api.Mem{W: slices.Repeat([]int{3}, 512)}
	for mode := api.Off; mode <= api.On; mode++ {
		for _, dev := range []int{-1, 0, 7, 8} {
			for _, page := range []int{-1, 0, 63, 64} {
				for _, write := range []bool{false, true} {
					want := comes(page)
					if mode == api.Off {
						want = faulty(api.Shut)
					}
					if dev < 0 || dev > 7 || page < 0 || page > 63 {
						want = wrong(api.ErrWho)
					}
					throughIs(t, "an edge", m, of(mode), dev, page, write, want, nil)
					plainIs(t, "an edge", m, of(mode), dev, page, write, want)
				}
			}
		}
	}
}

func TestNoDeviceAndNoPage(t *testing.T) {
	for mode := api.Off; mode <= api.On; mode++ {
		for _, d := range noDevs {
			for _, page := range []int{0, 63, -1, 64} {
				throughIs(t, "no device", world(), of(mode, full()...), d, page, true, wrong(api.ErrWho), nil)
				plainIs(t, "no device", world(), of(mode, full()...), d, page, true, wrong(api.ErrWho))
			}
		}
		for _, p := range noPages {
			for _, dev := range []int{0, 7, -1, 8} {
				throughIs(t, "no page", world(), of(mode, full()...), dev, p, false, wrong(api.ErrWho), nil)
				plainIs(t, "no page", world(), of(mode, full()...), dev, p, false, wrong(api.ErrWho))
			}
		}
	}
}

// asks have an error of their own, or a fault, or neither.
var asks = [][2]int{{0, 0}, {2, 9}, {3, 0}, {3, 7}, {-1, 0}, {8, 0}, {0, -1}, {0, 64}, {8, 64}}

func TestMemoryIsToldAheadOfAll(t *testing.T) {
	bridges := append(badBridges(), badBridge{"a right bridge", of(api.On, full()...), api.OK},
		badBridge{"off", of(api.Off), api.OK}, badBridge{"bare", of(api.Bare), api.OK})
	for _, c := range badMems() {
		for _, x := range bridges {
			for _, a := range asks {
				throughIs(t, c.name+", "+x.name, c.m, x.b, a[0], a[1], true, wrong(c.want), nil)
				plainIs(t, c.name+", "+x.name, c.m, x.b, a[0], a[1], true, wrong(c.want))
			}
		}
	}
}

func TestBridgeIsToldAheadOfDeviceAndPage(t *testing.T) {
	for _, c := range badBridges() {
		for _, a := range asks {
			throughIs(t, c.name, world(), c.b, a[0], a[1], false, wrong(c.want), nil)
		}
	}
}

// TestPlainOfWrongBridges: plain is of a bridge with an empty cache, so all counts
// that may be wrong with a bridge but its cache.
func TestPlainOfWrongBridges(t *testing.T) {
	for _, c := range badBridges() {
		empty := c.b
		empty.Cache = nil
		for _, a := range asks {
			_, want := throughOf(world(), empty, a[0], a[1], false)
			plainIs(t, c.name, world(), c.b, a[0], a[1], false, want)
		}
	}
	for _, c := range badCaches() {
		plainIs(t, c.name, world(), c.b, 0, 0, true, comes(50))
		c.b.Mode = 3
		plainIs(t, c.name+", no mode", world(), c.b, 0, 0, true, wrong(api.ErrRange))
	}
}
