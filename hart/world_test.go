package hart

import (
	"slices"
	"testing"

	"drawbridge/api"
	"drawbridge/bridge"
)

// marker fills spare room, so that a word that is written behind the others is seen.
const marker = -77

// spoilt is written over what is answered: it is unlike all that is handed in, and
// unlike what is behind that.
const spoilt = -78

// noLine and spoiltLine are these for lines.
var (
	noLine     = api.Line{Dev: marker, Page: marker, At: marker}
	spoiltLine = api.Line{Dev: spoilt, Page: spoilt, At: spoilt}
)

// put is the word of an instruction, by the document's sum alone.
func put(kind, a, b, imm int) int { return 4096*kind + 512*a + 64*b + imm }

// world is memory in which each word says where it is, and is no instruction, but
// for one word.
func world(at, w int) api.Mem {
	m := api.Mem{W: make([]int, 512)}
	for k := range m.W {
		m.W[k] = 40000 + k
	}
	m.W[at] = w
	return m
}

// program is memory with these words from a place on, and no instruction elsewhere.
func program(at int, l ...int) api.Mem {
	m := world(at, 0)
	copy(m.W[at:], l)
	return m
}

// at is a hart at a place, with each register unlike the others.
func at(place int) api.Hart {
	return api.Hart{At: place, R: []int{100, 101, 102, 103, 104, 105, 106, 107}}
}

// with is a hart at a place, some of whose registers are set.
func with(place int, set map[int]int) api.Hart {
	h := at(place)
	for k, w := range set {
		h.R[k] = w
	}
	return h
}

// open is a right bridge with as many lines as there may be and with each register
// unlike the others.
func open() api.Bridge {
	return api.Bridge{
		Mode: api.On, Base: 9,
		Cache: []api.Line{
			{Dev: 0, Page: 0, At: 33, Read: true, Write: true},
			{Dev: 0, Page: 4, At: 34, Read: true},
			{Dev: 1, Page: 0, At: 35, Read: true, Write: true},
			{Dev: 3, Page: 0, At: 36, Read: true},
			{Dev: 2, Page: 9, At: 37, Read: true, Write: true},
			{Dev: 7, Page: 63, At: 38, Read: true},
		},
		Orders: api.Ring{Page: 60, Head: 3, Tail: 5}, Fences: 517,
		Faults: api.Ring{Page: 61, Head: 4, Tail: 6},
	}
}

// inState is open with a state.
func inState(stopped, lost bool) api.Bridge {
	b := open()
	b.Stopped, b.Lost = stopped, lost
	return b
}

// changed is a bridge that is changed in some way.
func changed(change func(*api.Bridge)) api.Bridge {
	b := open()
	change(&b)
	return b
}

// left is what must be left of a step.
type left struct {
	m api.Mem
	h api.Hart
	b api.Bridge
}

func copies(m api.Mem, h api.Hart, b api.Bridge) left {
	h.R, b.Cache = slices.Clone(h.R), slices.Clone(b.Cache)
	return left{api.Mem{W: slices.Clone(m.W)}, h, b}
}

// leaves asks for a step with no error that leaves this.
func leaves(t *testing.T, name string, m api.Mem, h api.Hart, b api.Bridge, want left) {
	t.Helper()
	n, g, c, e := Step(m, h, b)
	if e != api.OK {
		t.Errorf("%s: Step of %+v: %v", name, h, e)
		return
	}
	if !Same(g, want.h) {
		t.Errorf("%s: Step of %+v: %+v, want %+v", name, h, g, want.h)
	}
	if !bridge.Same(c, want.b) {
		t.Errorf("%s: Step of %+v: %+v, want %+v", name, h, c, want.b)
	}
	if !slices.Equal(n.W, want.m.W) {
		t.Errorf("%s: Step of %+v: another memory than it must be", name, h)
	}
}

// goesOn asks for a step to the next word, with some change beside it.
func goesOn(t *testing.T, name string, m api.Mem, h api.Hart, b api.Bridge, change func(*left)) {
	t.Helper()
	want := copies(m, h, b)
	if want.h.At++; want.h.At == 512 {
		want.h.At = 0
	}
	change(&want)
	leaves(t, name, m, h, b, want)
}

// ends asks for a step that makes the hart Done, and changes nothing else.
func ends(t *testing.T, name string, m api.Mem, h api.Hart, b api.Bridge) {
	t.Helper()
	want := copies(m, h, b)
	want.h.Done = true
	leaves(t, name, m, h, b, want)
}

// fails asks for an error, and for nothing else.
func fails(t *testing.T, name string, m api.Mem, h api.Hart, b api.Bridge, want api.Errno) {
	t.Helper()
	n, g, c, e := Step(m, h, b)
	if e != want {
		t.Errorf("%s: Step of %+v: %v, want %v", name, h, e, want)
	}
	if n.W != nil || g.R != nil || c.Cache != nil || !Same(g, api.Hart{}) || !bridge.Same(c, api.Bridge{}) {
		t.Errorf("%s: Step of %+v: an error, and %d words, %+v, %+v", name, h, len(n.W), g, c)
	}
}

// reg is a change of one register of the hart.
func reg(k, w int) func(*left) { return func(l *left) { l.h.R[k] = w } }

func nothing(*left) {}
