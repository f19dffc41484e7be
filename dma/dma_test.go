package dma

import (
	"math"
	"slices"
	"testing"

	"drawbridge/api"
	"drawbridge/bridge"
)

// marker fills spare room, so that a word that is written behind the others is seen.
const marker = -77

// spoilt is written over what is answered: it is unlike all that is handed in, and
// unlike what is behind that.
const spoilt = -78

// noLine is marker for lines.
var noLine = api.Line{Dev: marker, Page: marker, At: marker}

var noCounts = []int{-1, -20, math.MinInt, math.MinInt + 1, 0, 21, 22, 512, math.MaxInt}

var noDevs = []int{-1, -8, math.MinInt, 8, 9, 64, math.MaxInt}

var noWords = []int{-1, -65536, math.MinInt, 65536, 65537, math.MaxInt}

// world is memory in which each word says where it is, but for a directory at page 5,
// tables at the pages 6, 8 and 9, and rings at the pages 60 and 61.
func world() api.Mem {
	m := api.Mem{W: make([]int, 512)}
	for at := range m.W {
		m.W[at] = 10000 + at
	}
	for at, w := range map[int]int{
		40: 1 + 16*6, // device 0: tables at page 6
		41: 1 + 16*9, // device 1: tables at page 9
		42: 3,        // device 2: memory as it is
		43: 0,        // device 3: nothing
		44: 65534,    // device 4: not valid, with all other bits
		45: 5,        // device 5: a bit that may not be
		46: 3,        // device 6: memory as it is
		47: 1 + 16*6, // device 7: the tables of device 0

		48: 1 + 16*8,   // pages 0 to 7: by the table at page 8
		49: 15 + 16*16, // pages 8 to 15: at 16 to 23, to write
		50: 11 + 16*24, // pages 16 to 23: at 24 to 31, to read
		51: 15 + 16*17, // pages 24 to 31: at a place that may not be
		52: 0,          // pages 32 to 39: nowhere
		53: 9 + 16*32,  // pages 40 to 47: with no right
		54: 3,          // pages 48 to 55: no entry
		55: 15 + 16*48, // pages 56 to 63: at 48 to 55, to write

		64: 15 + 16*50, // page 0: at 50, to write
		65: 15 + 16*48, // page 1: at 48, to write
		66: 15 + 16*51, // page 2: at 51, to write
		67: 11 + 16*49, // page 3: at 49, to read
		68: 0,          // page 4: nowhere
		69: 1024 + 15,  // page 5: no entry
		70: 15 + 16*50, // page 6: at 50 once more, to write
		71: 15 + 16*50, // page 7: at 50 once more, to write

		72: 15 + 16*0,  // device 1, pages 0 to 7: as they are, tables and all
		73: 15 + 16*56, // device 1, pages 8 to 15: at 56 to 63, rings and all
		74: 0, 75: 0, 76: 0, 77: 0, 78: 0,
		79: 15 + 16*8, // device 1, pages 56 to 63: at 8 to 15
	} {
		m.W[at] = w
	}
	return m
}

// of is a bridge to world in any mode that remembers these lines, with each field
// unlike the others.
func of(mode int, l ...api.Line) api.Bridge {
	return api.Bridge{
		Mode: mode, Base: 5, Cache: l,
		Orders: api.Ring{Page: 60, Head: 2, Tail: 3}, Fences: 17,
		Faults: api.Ring{Page: 61, Head: 4, Tail: 6},
	}
}

// full is as many lines as there may be: of pages that world has a way for and that
// it has none for, all to pages that it doesn't say.
func full() []api.Line {
	return []api.Line{
		{Dev: 0, Page: 0, At: 33, Read: true, Write: true},
		{Dev: 0, Page: 4, At: 34, Read: true},
		{Dev: 0, Page: 1, At: 35, Read: true},
		{Dev: 3, Page: 0, At: 36, Read: true, Write: true},
		{Dev: 2, Page: 1, At: 37, Read: true, Write: true},
		{Dev: 7, Page: 63, At: 38, Read: true},
	}
}

// with is a bridge with full that is changed in some way.
func with(change func(*api.Bridge)) api.Bridge {
	b := of(api.On, full()...)
	change(&b)
	return b
}

// reading is an ask for so many words.
func reading(dev, at, count int) api.Ask { return api.Ask{Dev: dev, At: at, Count: count} }

// writing is an ask to write so many words, which are 20001 and so on.
func writing(dev, at, count int) api.Ask {
	a := api.Ask{Dev: dev, At: at, Count: count, Write: true}
	for k := range count {
		a.Data = append(a.Data, 20001+k)
	}
	return a
}

// badMem is a memory that is refused, and why.
type badMem struct {
	name string
	m    api.Mem
	want api.Errno
}

func badMems() []badMem {
	bad := func(at, w int) api.Mem {
		m := world()
		m.W[at] = w
		return m
	}
	return []badMem{
		{"no list", api.Mem{}, api.ErrForm},
		{"an empty list", api.Mem{W: []int{}}, api.ErrForm},
		{"one word too few", api.Mem{W: world().W[:511]}, api.ErrForm},
		{"one word too many", api.Mem{W: append(world().W, 0)}, api.ErrForm},
		{"too few, and a bad word", api.Mem{W: []int{-1}}, api.ErrForm},
		{"a word of -1 that is asked for", bad(400, -1), api.ErrRange},
		{"a word of 65536 that isn't asked for", bad(511, 65536), api.ErrRange},
	}
}

// badBridge is a bridge that is refused, and why.
type badBridge struct {
	name string
	b    api.Bridge
	want api.Errno
}

func badBridges() []badBridge {
	return []badBridge{
		{"no mode", with(func(b *api.Bridge) { b.Mode = 3 }), api.ErrRange},
		{"no base", with(func(b *api.Bridge) { b.Base = 64 }), api.ErrRange},
		{"no fences", with(func(b *api.Bridge) { b.Fences = 1000 }), api.ErrRange},
		{"one line too many", with(func(b *api.Bridge) { b.Cache = append(b.Cache, api.Line{Dev: 6, Read: true}) }), api.ErrMany},
		{"a line at no page", with(func(b *api.Bridge) { b.Cache[5].At = 64 }), api.ErrRange},
		{"a line that may not be read", with(func(b *api.Bridge) { b.Cache[0].Read = false }), api.ErrForm},
		{"twice a line", with(func(b *api.Bridge) { b.Cache[5] = b.Cache[0] }), api.ErrTwice},
		{"orders at no page", with(func(b *api.Bridge) { b.Orders.Page = -1 }), api.ErrRange},
		{"faults with no tail", with(func(b *api.Bridge) { b.Faults.Tail = 8 }), api.ErrRange},
		{"off, and no base", with(func(b *api.Bridge) { b.Mode, b.Base = api.Off, -1 }), api.ErrRange},
	}
}

// badAsk is an ask that is refused, and why.
type badAsk struct {
	name string
	a    api.Ask
	want api.Errno
}

// badAsks are wrong in one thing each.
func badAsks() []badAsk {
	l := []badAsk{{"nothing", api.Ask{}, api.ErrMany}}
	add := func(name string, want api.Errno, a api.Ask) { l = append(l, badAsk{name, a, want}) }
	for _, n := range noCounts {
		add("no count", api.ErrMany, reading(0, 0, n))
		add("no count, to write", api.ErrMany, api.Ask{Count: n, Write: true, Data: make([]int, min(max(n, 0), 600))})
	}
	for _, d := range noDevs {
		add("no device", api.ErrWho, reading(d, 0, 1))
		add("no device, to write", api.ErrWho, writing(d, 0, 1))
	}
	for count := 1; count <= 20; count++ {
		for _, at := range []int{-1, -20, math.MinInt, 513 - count, 512, math.MaxInt - count, math.MaxInt - count + 1, math.MaxInt} {
			add("no such words", api.ErrWho, reading(0, at, count))
			add("no such words, to write", api.ErrWho, writing(7, at, count))
		}
		a := writing(0, 0, count)
		a.Data = a.Data[:count-1]
		add("one word too few", api.ErrForm, a)
		a.Data = make([]int, count+1)
		add("one word too many", api.ErrForm, a)
		a.Data = nil
		add("no words", api.ErrForm, a)
		a = reading(0, 0, count)
		a.Data = make([]int, 1)
		add("one word where it is to read", api.ErrForm, a)
		a.Data = make([]int, count)
		add("words where it is to read", api.ErrForm, a)
		for k := range count {
			for _, w := range noWords {
				a := writing(0, 0, count)
				a.Data[k] = w
				add("no word", api.ErrRange, a)
			}
		}
	}
	return l
}

func TestCheckOfRightAsks(t *testing.T) {
	for count := 1; count <= 20; count++ {
		for dev := range 8 {
			for at := 0; at <= 512-count; at++ {
				for _, a := range []api.Ask{reading(dev, at, count), writing(dev, at, count)} {
					if e := Check(a); e != api.OK {
						t.Errorf("Check of %+v: %v", a, e)
					}
				}
			}
		}
	}
}

func TestCheckOfWords(t *testing.T) {
	for _, w := range []int{0, 1, 32768, 65534, 65535} {
		for count := 1; count <= 20; count++ {
			if e := Check(api.Ask{Count: count, Write: true, Data: slices.Repeat([]int{w}, count)}); e != api.OK {
				t.Errorf("Check of %d times %d: %v", count, w, e)
			}
		}
	}
}

func TestCheckOfNoData(t *testing.T) {
	for _, d := range [][]int{nil, {}, make([]int, 0, 9)} {
		if e := Check(api.Ask{Dev: 7, At: 511, Count: 1, Data: d}); e != api.OK {
			t.Errorf("Check with nothing in Data: %v", e)
		}
		if e := Check(api.Ask{Dev: 7, At: 511, Count: 1, Write: true, Data: d}); e != api.ErrForm {
			t.Errorf("Check with nothing in Data, to write: %v", e)
		}
	}
}

func TestCheckRefuses(t *testing.T) {
	for _, c := range badAsks() {
		if e := Check(c.a); e != c.want {
			t.Errorf("%s, %+v: %v, want %v", c.name, c.a, e, c.want)
		}
	}
}

// TestCheckEdges goes through all of the edges together: the first error that
// applies is told.
func TestCheckEdges(t *testing.T) {
	for _, count := range []int{-1, 0, 1, 2, 19, 20, 21} {
		for _, dev := range []int{-1, 0, 7, 8} {
			for _, at := range []int{-1, 0, 512 - count, 513 - count} {
				for size := range 23 {
					for _, w := range []int{-1, 0, 65535, 65536} {
						for _, write := range []bool{false, true} {
							a := api.Ask{Dev: dev, At: at, Count: count, Write: write, Data: slices.Repeat([]int{w}, size)}
							want := api.OK
							switch {
							case count < 1 || count > 20:
								want = api.ErrMany
							case dev < 0 || dev > 7 || at < 0 || at+count > 512:
								want = api.ErrWho
							case write && size != count || !write && size != 0:
								want = api.ErrForm
							case write && (w < 0 || w > 65535):
								want = api.ErrRange
							}
							if e := Check(a); e != want {
								t.Errorf("Check of %+v: %v, want %v", a, e, want)
							}
						}
					}
				}
			}
		}
	}
}

// TestCheckOfOneBadWord: one is enough, be it the first, the last or between.
func TestCheckOfOneBadWord(t *testing.T) {
	for k := range 20 {
		a := writing(0, 0, 20)
		for _, w := range []int{-1, 65536} {
			a.Data[k] = w
			if e := Check(a); e != api.ErrRange {
				t.Errorf("word %d is %d: %v", k, w, e)
			}
		}
		for _, w := range []int{0, 65535} {
			a.Data[k] = w
			if e := Check(a); e != api.OK {
				t.Errorf("word %d is %d: %v", k, w, e)
			}
		}
	}
}

// room is a memory, a bridge and an ask with spare room behind their lists.
type room struct {
	m           api.Mem
	b           api.Bridge
	a           api.Ask
	words, data []int
	lines       []api.Line
}

func roomy(m api.Mem, b api.Bridge, a api.Ask) room {
	r := room{m: m, b: b, a: a}
	r.words = append(slices.Clone(m.W), slices.Repeat([]int{marker}, 40)...)
	r.data = append(slices.Clone(a.Data), slices.Repeat([]int{marker}, 40)...)
	r.lines = append(slices.Clone(b.Cache), slices.Repeat([]api.Line{noLine}, 9)...)
	r.m.W, r.b.Cache, r.a.Data = r.words[:len(m.W)], r.lines[:len(b.Cache)], r.data[:len(a.Data)]
	return r
}

// stays tells of a room that isn't what it was made of any more.
func (r room) stays(t *testing.T, name string, m api.Mem, b api.Bridge, a api.Ask) {
	t.Helper()
	was := roomy(m, b, a)
	if !slices.Equal(r.words, was.words) {
		t.Errorf("%s: the memory that was handed in is changed, or the room behind it", name)
	}
	if !slices.Equal(r.lines, was.lines) || !bridge.Same(r.b, was.b) {
		t.Errorf("%s: the bridge that was handed in is changed, or the room behind it", name)
	}
	if !slices.Equal(r.data, was.data) || !sameAsk(r.a, was.a) {
		t.Errorf("%s: the ask that was handed in is changed, or the room behind it", name)
	}
}

func sameAsk(a, b api.Ask) bool {
	return a.Dev == b.Dev && a.At == b.At && a.Count == b.Count && a.Write == b.Write && slices.Equal(a.Data, b.Data)
}

// spoil writes over a list that was answered, and over all the room behind it.
func spoil[T any](l []T, x T) {
	l = l[:cap(l)]
	for k := range l {
		l[k] = x
	}
}

// handed are memories, bridges and asks that calls of every outcome are made with.
func handed() map[string]room {
	l := map[string]room{}
	add := func(name string, m api.Mem, b api.Bridge, a api.Ask) { l[name] = room{m: m, b: b, a: a} }
	for name, b := range map[string]api.Bridge{
		"off": of(api.Off, full()...), "bare": of(api.Bare, full()...),
		"on": of(api.On), "on, with room": of(api.On, full()[1:3]...), "on and full": of(api.On, full()...),
		"lost":                      with(func(b *api.Bridge) { b.Lost = true }),
		"with faults that are full": with(func(b *api.Bridge) { b.Faults.Tail = 3 }),
	} {
		for _, dev := range []int{0, 1, 2, 3, 7} {
			for _, count := range []int{1, 3, 20} {
				for _, at := range []int{0, 5, 13, 64, 120, 492} {
					which := name + string(rune('0'+dev)) + string(rune('0'+count)) + string(rune('0'+at))
					add(which+", to read", world(), b, reading(dev, at, count))
					add(which+", to write", world(), b, writing(dev, at, count))
				}
			}
		}
	}
	for _, c := range badMems() {
		add(c.name, c.m, of(api.On, full()...), writing(0, 5, 20))
	}
	for _, c := range badBridges() {
		add(c.name, world(), c.b, writing(0, 5, 20))
	}
	for k, c := range badAsks() {
		add(c.name+string(rune(k)), world(), of(api.On, full()...), c.a)
	}
	return l
}

// TestWhatIsHandedInStays spoils all that is answered, so that what is shared with
// something that was handed in is seen there.
func TestWhatIsHandedInStays(t *testing.T) {
	for name, h := range handed() {
		r := roomy(h.m, h.b, h.a)
		Check(r.a)
		r.stays(t, name, h.m, h.b, h.a)
		m, b, told, _ := Do(r.m, r.b, r.a)
		r.stays(t, name, h.m, h.b, h.a)
		spoil(m.W, spoilt)
		spoil(b.Cache, api.Line{Dev: spoilt})
		spoil(told.Data, spoilt)
		spoil(told.Touched, api.Touch{Dev: spoilt})
		r.stays(t, name, h.m, h.b, h.a)
	}
}

// TestListsOfAnAnswerShareNothing spoils the list that it is told of words, and all
// the room behind it: memory stays, and so the other way round.
func TestListsOfAnAnswerShareNothing(t *testing.T) {
	for name, h := range handed() {
		want, _, say, _ := Do(h.m, h.b, h.a)
		words, data := slices.Clone(want.W), slices.Clone(say.Data)
		m, _, told, _ := Do(h.m, h.b, h.a)
		spoil(told.Data, spoilt)
		if !slices.Equal(m.W, words) {
			t.Errorf("%s: memory shares words with what is told", name)
		}
		m, _, told, _ = Do(h.m, h.b, h.a)
		spoil(m.W, spoilt)
		if !slices.Equal(told.Data, data) {
			t.Errorf("%s: what is told shares words with memory", name)
		}
	}
}

// TestSpareRoomDoesNotCount: the same is answered with it and without.
func TestSpareRoomDoesNotCount(t *testing.T) {
	for name, h := range handed() {
		r := roomy(h.m, h.b, h.a)
		if Check(r.a) != Check(h.a) {
			t.Errorf("%s: Check answers otherwise with spare room", name)
		}
		m, b, told, e := Do(h.m, h.b, h.a)
		if m2, b2, told2, e2 := Do(r.m, r.b, r.a); !slices.Equal(m.W, m2.W) || !bridge.Same(b, b2) || !sameTold(told, told2) || e != e2 {
			t.Errorf("%s: Do answers otherwise with spare room", name)
		}
	}
}

func sameTold(a, b api.Told) bool {
	return a.Done == b.Done && a.Fault == b.Fault && slices.Equal(a.Data, b.Data) && slices.Equal(a.Touched, b.Touched)
}
