package machine

import (
	"math"
	"slices"
	"testing"

	"drawbridge/api"
)

// wrong is a machine that Check refuses, why, and a change that makes any right
// machine wrong in the same way.
type wrong struct {
	name   string
	change func(*api.Machine)
	want   api.Errno
}

func badMems() []wrong {
	return []wrong{
		{"no words", func(m *api.Machine) { m.M.W = nil }, api.ErrForm},
		{"an empty list", func(m *api.Machine) { m.M.W = []int{} }, api.ErrForm},
		{"one word too few", func(m *api.Machine) { m.M.W = m.M.W[:511] }, api.ErrForm},
		{"one word too many", func(m *api.Machine) { m.M.W = append(m.M.W, 0) }, api.ErrForm},
		{"too few, and a bad word", func(m *api.Machine) { m.M.W = []int{-1} }, api.ErrForm},
		{"the first word is -1", word(0, -1), api.ErrRange},
		{"the last word is 65536", word(511, 65536), api.ErrRange},
		{"the word of the hart is the least number", word(96, math.MinInt), api.ErrRange},
	}
}

func badHarts() []wrong {
	return []wrong{
		{"no registers", func(m *api.Machine) { m.H.R = nil }, api.ErrForm},
		{"one register too few", func(m *api.Machine) { m.H.R = m.H.R[:7] }, api.ErrForm},
		{"one register too many", func(m *api.Machine) { m.H.R = append(m.H.R, 0) }, api.ErrForm},
		{"too few, and no place", func(m *api.Machine) { m.H.R, m.H.At = m.H.R[:7], 512 }, api.ErrForm},
		{"a hart at -1", func(m *api.Machine) { m.H.At = -1 }, api.ErrRange},
		{"a hart at 512", func(m *api.Machine) { m.H.At = 512 }, api.ErrRange},
		{"a register of -1", func(m *api.Machine) { m.H.R[0] = -1 }, api.ErrRange},
		{"a register of 65536", func(m *api.Machine) { m.H.R[7] = 65536 }, api.ErrRange},
		{"a register of 65536, and done", func(m *api.Machine) { m.H.R[7], m.H.Done = 65536, true }, api.ErrRange},
	}
}

func badBridges() []wrong {
	lines := func(change func([]api.Line)) func(*api.Machine) {
		return func(m *api.Machine) {
			m.B.Cache = full()
			change(m.B.Cache)
		}
	}
	return []wrong{
		{"no mode", func(m *api.Machine) { m.B.Mode = 3 }, api.ErrRange},
		{"no mode either", func(m *api.Machine) { m.B.Mode = -1 }, api.ErrRange},
		{"no base", func(m *api.Machine) { m.B.Base = 64 }, api.ErrRange},
		{"no fences", func(m *api.Machine) { m.B.Fences = 1000 }, api.ErrRange},
		{"a line too many", func(m *api.Machine) { m.B.Cache = append(full(), api.Line{Dev: 6, Read: true}) }, api.ErrMany},
		{"a line of no device", lines(func(l []api.Line) { l[5].Dev = 8 }), api.ErrRange},
		{"a line that may not be read", lines(func(l []api.Line) { l[5].Read = false }), api.ErrForm},
		{"a line twice", lines(func(l []api.Line) { l[5].Dev, l[5].Page = 0, 0 }), api.ErrTwice},
		{"orders at no page", func(m *api.Machine) { m.B.Orders.Page = 64 }, api.ErrRange},
		{"no tail of orders", func(m *api.Machine) { m.B.Orders.Tail = 8 }, api.ErrRange},
		{"no head of faults", func(m *api.Machine) { m.B.Faults.Head = -1 }, api.ErrRange},
	}
}

func rightMachines() map[string]api.Machine {
	return map[string]api.Machine{
		"world":    world(),
		"full":     holding(full()...),
		"off":      changed(func(m *api.Machine) { m.B.Mode = api.Off }),
		"bare":     changed(func(m *api.Machine) { m.B.Mode = api.Bare }),
		"done":     changed(func(m *api.Machine) { m.H.Done = true }),
		"stopped":  changed(func(m *api.Machine) { m.B.Stopped = true }),
		"lost":     changed(func(m *api.Machine) { m.B.Lost = true }),
		"ordered":  ordered(order(api.Fence, 0, 0)),
		"noughts":  {M: api.Mem{W: make([]int, 512)}, H: api.Hart{R: make([]int, 8)}},
		"no lines": changed(func(m *api.Machine) { m.B.Cache = []api.Line{} }),
		"the greatest": changed(func(m *api.Machine) {
			m.M.W[511], m.H.R[7], m.H.At, m.B.Base, m.B.Fences = 65535, 65535, 511, 63, 999
		}),
	}
}

func TestCheckOfRightMachines(t *testing.T) {
	for name, m := range rightMachines() {
		if e := Check(m); e != api.OK {
			t.Errorf("%s: Check: %v", name, e)
		}
	}
}

// everyWrong is each wrong machine, with one part wrong, two or all three of them,
// and the error of the first of these parts.
func everyWrong() []wrong {
	well := wrong{"", none, api.OK}
	l := []wrong{}
	for _, x := range append(badMems(), well) {
		for _, y := range append(badHarts(), well) {
			for _, z := range append(badBridges(), well) {
				first := x.want
				if first == api.OK {
					first = y.want
				}
				if first == api.OK {
					first = z.want
				}
				if first != api.OK {
					l = append(l, wrong{x.name + "; " + y.name + "; " + z.name, also(x.change, y.change, z.change), first})
				}
			}
		}
	}
	return l
}

func TestCheckTellsTheFirst(t *testing.T) {
	for _, c := range everyWrong() {
		if e := Check(changed(c.change)); e != c.want {
			t.Errorf("%s: Check: %v, want %v", c.name, e, c.want)
		}
	}
	if e := Check(api.Machine{}); e != api.ErrForm {
		t.Errorf("Check of nothing at all: %v", e)
	}
}

// eachField is a change of each field of a machine by itself, some of them to what
// may not be.
func eachField() map[string]func(*api.Machine) {
	return map[string]func(*api.Machine){
		"the first word":      word(0, 1),
		"the last word":       word(511, -1),
		"a word less":         func(m *api.Machine) { m.M.W = m.M.W[:511] },
		"a word more":         func(m *api.Machine) { m.M.W = append(m.M.W, 0) },
		"no words":            func(m *api.Machine) { m.M.W = nil },
		"where the hart is":   func(m *api.Machine) { m.H.At = 600 },
		"the first register":  func(m *api.Machine) { m.H.R[0]++ },
		"the last register":   func(m *api.Machine) { m.H.R[7] = -1 },
		"a register less":     func(m *api.Machine) { m.H.R = m.H.R[:7] },
		"whether it stands":   func(m *api.Machine) { m.H.Done = true },
		"the mode":            func(m *api.Machine) { m.B.Mode = 7 },
		"the base":            func(m *api.Machine) { m.B.Base++ },
		"a device of a line":  func(m *api.Machine) { m.B.Cache[5].Dev-- },
		"a page of a line":    func(m *api.Machine) { m.B.Cache[0].Page++ },
		"a place of a line":   func(m *api.Machine) { m.B.Cache[3].At++ },
		"reading of a line":   func(m *api.Machine) { m.B.Cache[5].Read = false },
		"writing of a line":   func(m *api.Machine) { m.B.Cache[5].Write = true },
		"a line less":         func(m *api.Machine) { m.B.Cache = m.B.Cache[:5] },
		"a line more":         line(api.Line{}),
		"lines the other way": func(m *api.Machine) { slices.Reverse(m.B.Cache) },
		"the page of orders":  func(m *api.Machine) { m.B.Orders.Page++ },
		"the head of orders":  func(m *api.Machine) { m.B.Orders.Head++ },
		"the tail of orders":  func(m *api.Machine) { m.B.Orders.Tail++ },
		"whether it stopped":  func(m *api.Machine) { m.B.Stopped = true },
		"the fences":          func(m *api.Machine) { m.B.Fences = -1 },
		"the page of faults":  func(m *api.Machine) { m.B.Faults.Page++ },
		"the head of faults":  func(m *api.Machine) { m.B.Faults.Head++ },
		"the tail of faults":  func(m *api.Machine) { m.B.Faults.Tail++ },
		"whether some lost":   func(m *api.Machine) { m.B.Lost = true },
	}
}

func TestSameOfEachField(t *testing.T) {
	fields := eachField()
	for name, change := range fields {
		a, b := holding(full()...), holding(full()...)
		change(&b)
		if Same(a, b) || Same(b, a) {
			t.Errorf("%s is another one, and they are the same", name)
		}
		if !Same(b, clone(b)) {
			t.Errorf("%s: not the same as its copy", name)
		}
		for other, turn := range fields {
			c := holding(full()...)
			turn(&c)
			if Same(b, c) != (name == other) {
				t.Errorf("%s and %s: %v", name, other, Same(b, c))
			}
		}
	}
}

func TestSameOfAnything(t *testing.T) {
	for _, c := range everyWrong() {
		a, b := changed(c.change), changed(c.change)
		if !Same(a, b) || Same(a, world()) {
			t.Errorf("%s: not the same as itself, or the same as a right one", c.name)
		}
	}
	for name, a := range rightMachines() {
		for other, b := range rightMachines() {
			if Same(a, b) != alike(a, b) {
				t.Errorf("%s and %s: %v", name, other, Same(a, b))
			}
		}
	}
}

func TestSameOfNoListsAndEmptyOnes(t *testing.T) {
	empty := api.Machine{M: api.Mem{W: []int{}}, H: api.Hart{R: []int{}}, B: api.Bridge{Cache: []api.Line{}}}
	if !Same(empty, api.Machine{}) || !Same(api.Machine{}, empty) {
		t.Error("no lists and empty ones aren't the same")
	}
	roomy := world()
	roomy.M.W, roomy.H.R = append(roomy.M.W, 1)[:512], append(roomy.H.R, 2)[:8]
	roomy.B.Cache = full()[:0]
	if !Same(roomy, world()) || !Same(world(), roomy) {
		t.Error("what is behind a list counts")
	}
}
