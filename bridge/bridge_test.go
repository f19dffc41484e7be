package bridge

import (
	"math"
	"slices"
	"testing"

	"drawbridge/api"
)

// marker fills spare room, so that a word that is written behind the others is seen.
const marker = -77

// noLine is marker for lines.
var noLine = api.Line{Dev: marker, Page: marker, At: marker}

var noModes = []int{-1, -2, math.MinInt, 3, 4, math.MaxInt}

var noPages = []int{-1, -64, math.MinInt, 64, 65, 512, math.MaxInt}

var noDevs = []int{-1, -8, math.MinInt, 8, 9, 64, math.MaxInt}

var noFences = []int{-1, -1000, math.MinInt, 1000, 1001, math.MaxInt}

var noSteps = []int{-1, -8, math.MinInt, 8, 9, math.MaxInt}

// world is memory with a directory at page 5 that has a context of every sort, and
// tables that have an entry of every sort.
func world() api.Mem {
	m := api.Mem{W: make([]int, 512)}
	for at, w := range map[int]int{
		40: 1 + 16*6,  // device 0: tables at page 6
		41: 1 + 16*7,  // device 1: tables at page 7
		42: 3,         // device 2: memory as it is
		43: 0,         // device 3: nothing
		44: 65534,     // device 4: not valid, with all other bits
		45: 5,         // device 5: a bit that may not be
		46: 3 + 16*1,  // device 6: memory as it is, and tables
		47: 1 + 16*63, // device 7: tables at the last page

		48: 1 + 16*8,   // pages 0 to 7: by the table at page 8
		49: 15 + 16*16, // pages 8 to 15: at 16 to 23, to write
		50: 11 + 16*24, // pages 16 to 23: at 24 to 31, to read
		51: 15 + 16*17, // pages 24 to 31: at a place that may not be
		52: 0,          // pages 32 to 39: nowhere
		53: 9 + 16*32,  // pages 40 to 47: with no right
		54: 3,          // pages 48 to 55: no entry
		55: 1 + 16*9,   // pages 56 to 63: by the table at page 9

		64: 15 + 16*50, // page 0: at 50, to write
		65: 11 + 16*51, // page 1: at 51, to read
		66: 9 + 16*52,  // page 2: with no right
		67: 1 + 16*8,   // page 3: one table too many
		68: 0,          // page 4: nowhere
		69: 1024 + 15,  // page 5: no entry
		70: 15,         // page 6: at 0, to write
		71: 15 + 16*63, // page 7: at 63, to write
		79: 11 + 16*62, // page 63: at 62, to read

		56: 11 + 16*56, // device 1, pages 0 to 7: at 56 to 63, to read
		63: 15 + 16*8,  // device 1, pages 56 to 63: at 8 to 15, to write

		504: 15 + 16*40, // device 7, pages 0 to 7: at 40 to 47, to write; page 56: at 40
		511: 1 + 16*63,  // device 7, pages 56 to 63: by the same table once more
	} {
		m.W[at] = w
	}
	return m
}

// on is a bridge to world that remembers nothing, with each field unlike the others.
func on() api.Bridge {
	return api.Bridge{
		Mode: api.On, Base: 5,
		Orders: api.Ring{Page: 60, Head: 2, Tail: 3}, Fences: 17,
		Faults: api.Ring{Page: 61, Head: 4, Tail: 6},
	}
}

// of is a bridge to world in any mode that remembers these lines.
func of(mode int, l ...api.Line) api.Bridge {
	b := on()
	b.Mode, b.Cache = mode, l
	return b
}

// full is as many lines as there may be: of devices and pages that world has a way
// for and that it has none for, all to pages that it doesn't say.
func full() []api.Line {
	return []api.Line{
		{Dev: 0, Page: 0, At: 33, Read: true, Write: true},
		{Dev: 0, Page: 4, At: 34, Read: true},
		{Dev: 1, Page: 0, At: 35, Read: true, Write: true},
		{Dev: 3, Page: 0, At: 36, Read: true},
		{Dev: 2, Page: 9, At: 37, Read: true, Write: true},
		{Dev: 7, Page: 63, At: 38, Read: true},
	}
}

// with is a right bridge that is changed in some way.
func with(change func(*api.Bridge)) api.Bridge {
	b := of(api.On, full()...)
	change(&b)
	return b
}

// badBridge is one that Check refuses, and why.
type badBridge struct {
	name string
	b    api.Bridge
	want api.Errno
}

func badBridges() []badBridge {
	l := []badBridge{}
	add := func(name string, want api.Errno, change func(*api.Bridge)) {
		l = append(l, badBridge{name, with(change), want})
	}
	for _, x := range noModes {
		add("no mode", api.ErrRange, func(b *api.Bridge) { b.Mode = x })
	}
	for _, x := range noPages {
		add("no base", api.ErrRange, func(b *api.Bridge) { b.Base = x })
		add("orders at no page", api.ErrRange, func(b *api.Bridge) { b.Orders.Page = x })
		add("faults at no page", api.ErrRange, func(b *api.Bridge) { b.Faults.Page = x })
	}
	for _, x := range noFences {
		add("no fences", api.ErrRange, func(b *api.Bridge) { b.Fences = x })
	}
	for _, x := range noSteps {
		add("head of orders", api.ErrRange, func(b *api.Bridge) { b.Orders.Head = x })
		add("tail of orders", api.ErrRange, func(b *api.Bridge) { b.Orders.Tail = x })
		add("head of faults", api.ErrRange, func(b *api.Bridge) { b.Faults.Head = x })
		add("tail of faults", api.ErrRange, func(b *api.Bridge) { b.Faults.Tail = x })
	}
	return append(l, badCaches()...)
}

// badCaches are bridges of which nothing but the cache is wrong.
func badCaches() []badBridge {
	l := []badBridge{}
	add := func(name string, want api.Errno, change func(*api.Bridge)) {
		l = append(l, badBridge{name, with(change), want})
	}
	add("one line too many", api.ErrMany, func(b *api.Bridge) {
		b.Cache = append(b.Cache, api.Line{Dev: 6, Page: 6, Read: true})
	})
	for k := range full() {
		add("a line of no device", api.ErrRange, func(b *api.Bridge) { b.Cache[k].Dev = 8 })
		add("a line of no page", api.ErrRange, func(b *api.Bridge) { b.Cache[k].Page = -1 })
		add("a line at no page", api.ErrRange, func(b *api.Bridge) { b.Cache[k].At = 64 })
		add("a line that may not be read", api.ErrForm, func(b *api.Bridge) { b.Cache[k].Read = false })
		if k > 0 {
			add("twice a line", api.ErrTwice, func(b *api.Bridge) { b.Cache[k].Dev, b.Cache[k].Page = 0, 0 })
		}
	}
	return l
}

// badMem is a memory that is refused, and why.
type badMem struct {
	name string
	m    api.Mem
	want api.Errno
}

func badMems() []badMem {
	bad := func(at, w int) api.Mem {
		m := world()
		m.W[at] = w
		return m
	}
	return []badMem{
		{"no list", api.Mem{}, api.ErrForm},
		{"an empty list", api.Mem{W: []int{}}, api.ErrForm},
		{"one word too few", api.Mem{W: world().W[:511]}, api.ErrForm},
		{"one word too many", api.Mem{W: append(world().W, 0)}, api.ErrForm},
		{"too few, and a bad word", api.Mem{W: []int{-1}}, api.ErrForm},
		{"a context of -1", bad(40, -1), api.ErrRange},
		{"an entry of 65536", bad(48, 65536), api.ErrRange},
		{"an order of -1", bad(482, -1), api.ErrRange},
		{"a word that isn't asked, 65536", bad(511, 65536), api.ErrRange},
	}
}

// isZero is what a bridge must be that is told with an error.
func isZero(b api.Bridge) bool { return b.Cache == nil && Same(b, api.Bridge{}) }

func TestCheckOfRightBridges(t *testing.T) {
	for mode := api.Off; mode <= api.On; mode++ {
		for base := range 64 {
			for _, l := range [][]api.Line{nil, {}, full()[:1], full()} {
				b := of(mode, l...)
				b.Base = base
				if e := Check(b); e != api.OK {
					t.Errorf("Check of %+v: %v", b, e)
				}
			}
		}
	}
	for fences := range 1000 {
		b := on()
		b.Fences = fences
		if e := Check(b); e != api.OK {
			t.Errorf("Check with %d fences: %v", fences, e)
		}
	}
}

func TestCheckTakesAnyState(t *testing.T) {
	for _, b := range []api.Bridge{
		{},
		with(func(b *api.Bridge) { b.Stopped = true }),
		with(func(b *api.Bridge) { b.Lost = true }),
		with(func(b *api.Bridge) { b.Stopped, b.Lost = true, true }),
		with(func(b *api.Bridge) { b.Faults = b.Orders }),
		with(func(b *api.Bridge) { b.Orders.Page = b.Base }),
		with(func(b *api.Bridge) { b.Orders = api.Ring{Page: 63, Head: 7, Tail: 7} }),
		with(func(b *api.Bridge) { b.Faults = api.Ring{Page: 63, Head: 7, Tail: 6} }),
	} {
		if e := Check(b); e != api.OK {
			t.Errorf("Check of %+v: %v", b, e)
		}
	}
}

func TestCheckRefuses(t *testing.T) {
	for _, c := range badBridges() {
		if e := Check(c.b); e != c.want {
			t.Errorf("%s, %+v: %v, want %v", c.name, c.b, e, c.want)
		}
	}
}

// TestCheckTellsTheFirst: each thing that is out of range is told ahead of a cache
// that has another error, and that one ahead of the rings.
func TestCheckTellsTheFirst(t *testing.T) {
	for _, c := range badCaches() {
		for name, change := range map[string]func(*api.Bridge){
			"mode":   func(b *api.Bridge) { b.Mode = 3 },
			"base":   func(b *api.Bridge) { b.Base = 64 },
			"fences": func(b *api.Bridge) { b.Fences = 1000 },
		} {
			b := c.b
			change(&b)
			if e := Check(b); e != api.ErrRange {
				t.Errorf("%s, and %s: %v, want ErrRange", c.name, name, e)
			}
		}
		for name, change := range map[string]func(*api.Bridge){
			"orders": func(b *api.Bridge) { b.Orders.Page = -1 },
			"faults": func(b *api.Bridge) { b.Faults.Tail = 8 },
			"both":   func(b *api.Bridge) { b.Orders.Head, b.Faults.Head = 8, 8 },
		} {
			b := c.b
			change(&b)
			if e := Check(b); e != c.want {
				t.Errorf("%s, and %s: %v, want %v", c.name, name, e, c.want)
			}
		}
	}
}

// unlike are bridges that differ in one thing from that which with begins with.
func unlike() map[string]api.Bridge {
	l := map[string]api.Bridge{
		"mode":           with(func(b *api.Bridge) { b.Mode = api.Bare }),
		"base":           with(func(b *api.Bridge) { b.Base = 6 }),
		"page of orders": with(func(b *api.Bridge) { b.Orders.Page = 59 }),
		"head of orders": with(func(b *api.Bridge) { b.Orders.Head = 1 }),
		"tail of orders": with(func(b *api.Bridge) { b.Orders.Tail = 1 }),
		"stopped":        with(func(b *api.Bridge) { b.Stopped = true }),
		"fences":         with(func(b *api.Bridge) { b.Fences = 18 }),
		"page of faults": with(func(b *api.Bridge) { b.Faults.Page = 59 }),
		"head of faults": with(func(b *api.Bridge) { b.Faults.Head = 1 }),
		"tail of faults": with(func(b *api.Bridge) { b.Faults.Tail = 1 }),
		"lost":           with(func(b *api.Bridge) { b.Lost = true }),
		"no lines":       with(func(b *api.Bridge) { b.Cache = nil }),
		"a line less":    with(func(b *api.Bridge) { b.Cache = b.Cache[:5] }),
		"a line more":    with(func(b *api.Bridge) { b.Cache = append(b.Cache, api.Line{}) }),
		"lines in another order": with(func(b *api.Bridge) {
			b.Cache[0], b.Cache[1] = b.Cache[1], b.Cache[0]
		}),
	}
	for k := range full() {
		at := string(rune('0' + k))
		l["device of line "+at] = with(func(b *api.Bridge) { b.Cache[k].Dev = 6 })
		l["page of line "+at] = with(func(b *api.Bridge) { b.Cache[k].Page = 6 })
		l["place of line "+at] = with(func(b *api.Bridge) { b.Cache[k].At = 6 })
		l["reading of line "+at] = with(func(b *api.Bridge) { b.Cache[k].Read = false })
		l["writing of line "+at] = with(func(b *api.Bridge) { b.Cache[k].Write = !b.Cache[k].Write })
	}
	return l
}

func TestSame(t *testing.T) {
	b := with(func(*api.Bridge) {})
	if !Same(b, b) || !Same(b, with(func(*api.Bridge) {})) {
		t.Error("bridges that are alike are not the same")
	}
	for name, a := range unlike() {
		if Same(a, b) || Same(b, a) {
			t.Errorf("%s: bridges that are unlike are the same", name)
		}
		if !Same(a, a) {
			t.Errorf("%s: a bridge isn't the same as itself", name)
		}
	}
}

func TestSameOfNoLines(t *testing.T) {
	none, empty := of(api.On), of(api.On)
	none.Cache, empty.Cache = nil, make([]api.Line, 0, 6)
	if !Same(none, empty) || !Same(empty, none) || !Same(api.Bridge{}, api.Bridge{Cache: []api.Line{}}) {
		t.Error("no lines and an empty list of them are not the same")
	}
}

// TestSameOfWrongBridges: whatever they are, they are alike or they aren't.
func TestSameOfWrongBridges(t *testing.T) {
	right := with(func(*api.Bridge) {})
	for k, c := range badBridges() {
		if !Same(c.b, badBridges()[k].b) {
			t.Errorf("%s: a wrong bridge isn't the same as itself", c.name)
		}
		if Same(c.b, right) || Same(right, c.b) {
			t.Errorf("%s: a wrong bridge is the same as a right one", c.name)
		}
	}
}

// room is a bridge and a memory with spare room behind their lists.
type room struct {
	m     api.Mem
	b     api.Bridge
	words []int
	lines []api.Line
}

func roomy(m api.Mem, b api.Bridge) room {
	r := room{m: m, b: b}
	r.words = append(slices.Clone(m.W), slices.Repeat([]int{marker}, 40)...)
	r.lines = append(slices.Clone(b.Cache), slices.Repeat([]api.Line{noLine}, 9)...)
	r.m.W, r.b.Cache = r.words[:len(m.W)], r.lines[:len(b.Cache)]
	return r
}

// stays tells of a room that isn't what it was made of any more.
func (r room) stays(t *testing.T, name string, m api.Mem, b api.Bridge) {
	t.Helper()
	was := roomy(m, b)
	if !slices.Equal(r.words, was.words) {
		t.Errorf("%s: the memory that was handed in is changed, or the room behind it", name)
	}
	if !slices.Equal(r.lines, was.lines) || !Same(r.b, was.b) {
		t.Errorf("%s: the bridge that was handed in is changed, or the room behind it", name)
	}
}

// spoil writes over a list that was answered, and over all the room behind it.
func spoil[T any](l []T, x T) {
	l = l[:cap(l)]
	for k := range l {
		l[k] = x
	}
}

// handed are pairs of a memory and a bridge that calls of every outcome are made with.
func handed() map[string]room {
	l := map[string]room{}
	add := func(name string, m api.Mem, b api.Bridge) { l[name] = room{m: m, b: b} }
	add("remembering nothing", world(), on())
	add("with room in the cache", world(), of(api.On, full()[:3]...))
	add("full", world(), of(api.On, full()...))
	add("off", world(), of(api.Off, full()...))
	add("bare", world(), of(api.Bare, full()...))
	add("lost", world(), with(func(b *api.Bridge) { b.Lost = true }))
	add("with faults that are full", world(), with(func(b *api.Bridge) { b.Faults.Tail = 3 }))
	add("stopped", world(), with(func(b *api.Bridge) { b.Stopped = true }))
	add("with no orders", world(), with(func(b *api.Bridge) { b.Orders.Tail = 2 }))
	add("with an order to drop all", ordered(1), of(api.On, full()...))
	add("with an order to drop a device", ordered(2), of(api.On, full()...))
	add("with an order to drop a page", ordered(3), of(api.On, full()...))
	add("with no order", ordered(4), of(api.On, full()...))
	for _, c := range badMems() {
		add(c.name, c.m, of(api.On, full()...))
	}
	for _, c := range badBridges() {
		add(c.name, world(), c.b)
	}
	return l
}

// TestWhatIsHandedInStays spoils all that is answered, so that what is shared with
// something that was handed in is seen there.
func TestWhatIsHandedInStays(t *testing.T) {
	for name, h := range handed() {
		for dev := -1; dev <= 8; dev++ {
			for _, page := range []int{-1, 0, 1, 4, 9, 63, 64} {
				for _, write := range []bool{false, true} {
					r := roomy(h.m, h.b)
					Check(r.b)
					Same(r.b, r.b)
					Plain(r.m, r.b, dev, page, write)
					b, _, _, _ := Through(r.m, r.b, dev, page, write)
					spoil(b.Cache, noLine)
					m, b, _ := Tell(r.m, r.b, api.Fault{Cause: api.NoPage, Dev: dev, Page: page, Write: write})
					spoil(b.Cache, noLine)
					spoil(m.W, marker)
					r.stays(t, name, h.m, h.b)
				}
			}
		}
		r := roomy(h.m, h.b)
		b, _ := Obey(r.m, r.b)
		spoil(b.Cache, noLine)
		r.stays(t, name, h.m, h.b)
	}
}

// TestSpareRoomDoesNotCount: the same is answered with it and without.
func TestSpareRoomDoesNotCount(t *testing.T) {
	for name, h := range handed() {
		r := roomy(h.m, h.b)
		for page := range 64 {
			b, at, fault, e := Through(h.m, h.b, 0, page, false)
			if b2, at2, fault2, e2 := Through(r.m, r.b, 0, page, false); !Same(b, b2) || at != at2 || fault != fault2 || e != e2 {
				t.Errorf("%s, page %d: Through answers otherwise with spare room", name, page)
			}
			f := api.Fault{Cause: api.NoWay, Page: page}
			m, b, e := Tell(h.m, h.b, f)
			if m2, b2, e2 := Tell(r.m, r.b, f); !slices.Equal(m.W, m2.W) || !Same(b, b2) || e != e2 {
				t.Errorf("%s, page %d: Tell answers otherwise with spare room", name, page)
			}
		}
		b, e := Obey(h.m, h.b)
		if b2, e2 := Obey(r.m, r.b); !Same(b, b2) || e != e2 {
			t.Errorf("%s: Obey answers otherwise with spare room", name)
		}
	}
}
