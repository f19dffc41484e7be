package audit

import (
	"math"
	"slices"
	"testing"

	"drawbridge/api"
)

// world is a machine in whose memory each word says where it is, but for tables:
// the directory is page 1; device 0 has its tables at the pages 2 and 3; device 1 sees
// memory as it is; device 7 has its table at page 4; the others have no context, or a
// bad one. Orders are at page 40, faults at page 41. leads says where they lead.
func world() api.Machine {
	m := api.Mem{W: make([]int, 512)}
	for k := range m.W {
		m.W[k] = 40000 + k
	}
	for page, l := range map[int][8]int{
		1: {1 + 16*2, 3, 0, 5, 3 + 16*2, 0, 0, 1 + 16*4},
		2: {1 + 16*3, 15 + 16*16, 11 + 16*24, 15 + 16*33, 0, 3, 9 + 16*32, 15 + 16*56},
		3: {15 + 16*9, 11 + 16*8, 0, 3, 15, 1 + 16*3, 9 + 16*12, 11},
		4: {0, 0, 0, 0, 0, 0, 0, 15},
	} {
		copy(m.W[8*page:], l[:])
	}
	return api.Machine{
		M: m,
		H: api.Hart{At: 96, R: []int{100, 101, 102, 103, 104, 105, 106, 107}},
		B: api.Bridge{
			Mode: api.On, Base: 1, Fences: 517,
			Orders: api.Ring{Page: 40, Head: 3, Tail: 3}, Faults: api.Ring{Page: 41, Head: 4, Tail: 4},
		},
	}
}

// leads is where world's tables lead a device's page, written out by hand; -1: nowhere.
func leads(dev, page int, write bool) int {
	switch {
	case dev == 1:
		return page
	case dev == 7 && page >= 56:
		return page - 56
	case dev != 0:
		return -1
	case page == 0:
		return 9
	case page == 1 && !write:
		return 8
	case page == 4, page == 7 && !write:
		return 0
	case 8 <= page && page < 16, 16 <= page && page < 24 && !write:
		return page + 8
	case page >= 56:
		return page
	}
	return -1
}

// full is as many lines as there may be, none of them as world's tables say.
func full() []api.Line {
	return []api.Line{
		{Dev: 0, Page: 0, At: 33, Read: true, Write: true},
		{Dev: 0, Page: 1, At: 8, Read: true, Write: true},
		{Dev: 0, Page: 2, At: 34, Read: true},
		{Dev: 1, Page: 9, At: 35, Read: true},
		{Dev: 2, Page: 0, At: 36, Read: true, Write: true},
		{Dev: 7, Page: 63, At: 38, Read: true},
	}
}

// changed is world with changes.
func changed(l ...func(*api.Machine)) api.Machine {
	m := world()
	for _, change := range l {
		change(&m)
	}
	return m
}

// mode, word and lines are changes: of the mode, of one word of memory, of all that is
// remembered.
func mode(k int) func(*api.Machine) { return func(m *api.Machine) { m.B.Mode = k } }

func word(at, w int) func(*api.Machine) { return func(m *api.Machine) { m.M.W[at] = w } }

func lines(l ...api.Line) func(*api.Machine) { return func(m *api.Machine) { m.B.Cache = l } }

// reading is the touch of a device that reads word place of a page, seen as another.
func reading(dev, page, at, place int) api.Touch {
	return api.Touch{Dev: dev, Seen: 8*page + place, At: 8*at + place, Value: 7}
}

// writing is reading of one that writes.
func writing(dev, page, at, place int) api.Touch {
	t := reading(dev, page, at, place)
	t.Write = true
	return t
}

// fairIs asks for an answer with no error.
func fairIs(t *testing.T, name string, l []api.Machine, x api.Touch, want int) {
	t.Helper()
	if k, e := Fair(l, x); k != want || e != api.OK {
		t.Errorf("%s: Fair of %d machines, %+v: %d, %v, want %d", name, len(l), x, k, e, want)
	}
}

// fairFails asks for an error, and for nothing else.
func fairFails(t *testing.T, name string, l []api.Machine, x api.Touch, want api.Errno) {
	t.Helper()
	if k, e := Fair(l, x); k != 0 || e != want {
		t.Errorf("%s: Fair of %d machines, %+v: %d, %v, want 0, %v", name, len(l), x, k, e, want)
	}
}

// wrongTouch is a touch that Check refuses, and why.
type wrongTouch struct {
	name string
	x    api.Touch
	want api.Errno
}

func wrongTouches() []wrongTouch {
	return []wrongTouch{
		{"no device", api.Touch{Dev: 8}, api.ErrWho},
		{"no device either", api.Touch{Dev: -1}, api.ErrWho},
		{"the greatest device", api.Touch{Dev: math.MaxInt}, api.ErrWho},
		{"no word is seen", api.Touch{Seen: 512}, api.ErrWho},
		{"no word is seen either", api.Touch{Seen: -8}, api.ErrWho},
		{"no word is touched", api.Touch{At: 512}, api.ErrWho},
		{"no word is touched either", api.Touch{At: -8}, api.ErrWho},
		{"no device, no value, another place", api.Touch{Dev: 8, At: 1, Value: -1}, api.ErrWho},
		{"no value", api.Touch{Value: 65536}, api.ErrRange},
		{"no value either", api.Touch{Value: -1}, api.ErrRange},
		{"no value, another place", api.Touch{Seen: 1, Value: -1}, api.ErrRange},
		{"another place", api.Touch{Dev: 1, Seen: 1}, api.ErrForm},
		{"another place, to write", api.Touch{Dev: 1, Seen: 7, At: 8, Write: true}, api.ErrForm},
	}
}

// wrong is a change that makes any right machine wrong, and why.
type wrong struct {
	name   string
	change func(*api.Machine)
	want   api.Errno
}

func wrongs() []wrong {
	twice := func(m *api.Machine) { m.B.Cache = append(full()[:5], full()[0]) }
	many := func(m *api.Machine) { m.B.Cache = append(full(), api.Line{Dev: 6, Read: true}) }
	return []wrong{
		{"no words", func(m *api.Machine) { m.M.W = nil }, api.ErrForm},
		{"a word too few", func(m *api.Machine) { m.M.W = m.M.W[:511] }, api.ErrForm},
		{"the last word", word(511, 65536), api.ErrRange},
		{"no registers", func(m *api.Machine) { m.H.R = nil }, api.ErrForm},
		{"a register too many", func(m *api.Machine) { m.H.R = append(slices.Clip(m.H.R), 0) }, api.ErrForm},
		{"a hart nowhere", func(m *api.Machine) { m.H.At = 512 }, api.ErrRange},
		{"a register", func(m *api.Machine) { m.H.R = []int{0, 0, 0, 0, 0, 0, 0, -1} }, api.ErrRange},
		{"no mode", mode(3), api.ErrRange},
		{"no base", func(m *api.Machine) { m.B.Base = 64 }, api.ErrRange},
		{"no fences", func(m *api.Machine) { m.B.Fences = -1 }, api.ErrRange},
		{"too many lines", many, api.ErrMany},
		{"a line of no device", lines(api.Line{Dev: 8, Read: true}), api.ErrRange},
		{"a line that isn't to read", lines(api.Line{Dev: 7}), api.ErrForm},
		{"a line twice", twice, api.ErrTwice},
		{"a ring nowhere", func(m *api.Machine) { m.B.Orders.Page = 64 }, api.ErrRange},
		{"a ring with no tail", func(m *api.Machine) { m.B.Faults.Tail = 8 }, api.ErrRange},
	}
}
