package machine

import (
	"slices"
	"testing"

	"drawbridge/api"
)

// put is the word of an instruction, by the document's sum alone.
func put(kind, a, b, imm int) int { return 4096*kind + 512*a + 64*b + imm }

// order is the word of an order, by the document's sum alone.
func order(kind, dev, page int) int { return kind + 4*dev + 32*page }

// fault is the word of a fault, by the document's sum alone.
func fault(cause, dev, page int, write bool) int {
	if write {
		return cause + 8*dev + 64*page + 4096
	}
	return cause + 8*dev + 64*page
}

// world is a machine in whose memory each word says where it is, but for tables:
// the directory is page 1; device 0 has its tables at the pages 2 and 3; device 1 has
// them at page 4, and sees the first eight pages as they are, tables and rings among
// them; device 2 sees all memory as it is; the others have no context, or a bad one.
// Orders are at page 5, faults at page 6. The hart is at word 96, on no instruction.
func world() api.Machine {
	m := api.Mem{W: make([]int, 512)}
	for k := range m.W {
		m.W[k] = 40000 + k
	}
	for page, l := range map[int][8]int{
		1: {1 + 16*2, 1 + 16*4, 3, 0, 5, 0, 0, 0},
		2: {1 + 16*3, 15 + 16*16, 11 + 16*24, 0, 0, 0, 0, 3},
		3: {15 + 16*50, 11 + 16*51, 0, 3, 15 + 16*50, 15 + 16*52, 15 + 16*53, 15 + 16*54},
		4: {15, 0, 0, 0, 0, 0, 0, 0},
	} {
		copy(m.W[8*page:], l[:])
	}
	return api.Machine{
		M: m,
		H: api.Hart{At: 96, R: []int{100, 101, 102, 103, 104, 105, 106, 107}},
		B: api.Bridge{
			Mode: api.On, Base: 1, Fences: 517,
			Orders: api.Ring{Page: 5, Head: 3, Tail: 3}, Faults: api.Ring{Page: 6, Head: 4, Tail: 4},
		},
	}
}

// full is as many lines as there may be, none of them as world's tables say.
func full() []api.Line {
	return []api.Line{
		{Dev: 0, Page: 0, At: 33, Read: true, Write: true},
		{Dev: 0, Page: 2, At: 34, Read: true},
		{Dev: 1, Page: 0, At: 35, Read: true, Write: true},
		{Dev: 3, Page: 0, At: 36, Read: true},
		{Dev: 3, Page: 9, At: 37, Read: true, Write: true},
		{Dev: 7, Page: 63, At: 38, Read: true},
	}
}

// changed is world with a change.
func changed(change func(*api.Machine)) api.Machine {
	m := world()
	change(&m)
	return m
}

// holding is world with lines in its cache.
func holding(l ...api.Line) api.Machine {
	return changed(func(m *api.Machine) { m.B.Cache = l })
}

// programmed is world with a program where the hart is.
func programmed(l ...int) api.Machine {
	return changed(func(m *api.Machine) { copy(m.M.W[96:], l) })
}

// ordered is world with these words in its ring of orders, and with a full cache.
func ordered(l ...int) api.Machine {
	m := holding(full()...)
	for k, w := range l {
		m.M.W[40+(3+k)%8] = w
	}
	m.B.Orders.Tail = (3 + len(l)) % 8
	return m
}

// clone is a copy of a machine, made here so that no copy of the program is trusted.
func clone(m api.Machine) api.Machine {
	m.M.W, m.H.R, m.B.Cache = slices.Clone(m.M.W), slices.Clone(m.H.R), slices.Clone(m.B.Cache)
	return m
}

// alike is Same, told here once more.
func alike(a, b api.Machine) bool {
	return slices.Equal(a.M.W, b.M.W) && a.H.At == b.H.At && slices.Equal(a.H.R, b.H.R) && a.H.Done == b.H.Done &&
		a.B.Mode == b.B.Mode && a.B.Base == b.B.Base && slices.Equal(a.B.Cache, b.B.Cache) && a.B.Orders == b.B.Orders &&
		a.B.Stopped == b.B.Stopped && a.B.Fences == b.B.Fences && a.B.Faults == b.B.Faults && a.B.Lost == b.B.Lost
}

func sameTold(a, b api.Told) bool {
	return a.Done == b.Done && a.Fault == b.Fault && slices.Equal(a.Data, b.Data) && slices.Equal(a.Touched, b.Touched)
}

// nothingOf says whether a machine is all zero, with no lists.
func nothingOf(m api.Machine) bool {
	return m.M.W == nil && m.H.R == nil && m.B.Cache == nil && alike(m, api.Machine{})
}

func nothingTold(say api.Told) bool {
	return say.Data == nil && say.Touched == nil && sameTold(say, api.Told{})
}

// doIs asks for a happening with no error that leaves the machine with a change, and
// tells this.
func doIs(t *testing.T, name string, m api.Machine, x api.Happening, change func(*api.Machine), say api.Told) {
	t.Helper()
	want := clone(m)
	change(&want)
	n, told, e := Do(m, x)
	if e != api.OK {
		t.Errorf("%s: Do of %+v: %v", name, x, e)
		return
	}
	if !alike(n, want) {
		t.Errorf("%s: Do of %+v: another machine than it must be: %+v, %+v, want %+v, %+v", name, x, n.H, n.B, want.H, want.B)
	}
	if !sameTold(told, say) {
		t.Errorf("%s: Do of %+v tells %+v, want %+v", name, x, told, say)
	}
}

// doFails asks for an error, and for nothing else.
func doFails(t *testing.T, name string, m api.Machine, x api.Happening, want api.Errno) {
	t.Helper()
	n, told, e := Do(m, x)
	if e != want {
		t.Errorf("%s: Do of %+v: %v, want %v", name, x, e, want)
	}
	if !nothingOf(n) || !nothingTold(told) {
		t.Errorf("%s: Do of %+v: an error, and %+v, %+v, %d words, %+v", name, x, n.H, n.B, len(n.M.W), told)
	}
}

// runFails is doFails of a script.
func runFails(t *testing.T, name string, m api.Machine, l []api.Happening, want api.Errno) {
	t.Helper()
	n, told, said, e := Run(m, l)
	if e != want {
		t.Errorf("%s: Run of %d happenings: %v, want %v", name, len(l), e, want)
	}
	if !nothingOf(n) || told != nil || said != nil {
		t.Errorf("%s: Run of %d happenings: an error, and %+v, %+v, %d words, %v, %v", name, len(l), n.H, n.B, len(n.M.W), told, said)
	}
}

var (
	step  = api.Happening{Kind: api.HStep}
	obey  = api.Happening{Kind: api.HOrder}
	none  = func(*api.Machine) {}
	quiet = api.Told{}
)

func evict(n int) api.Happening { return api.Happening{Kind: api.HEvict, N: n} }

// reading is an ask to read count words.
func reading(dev, at, count int) api.Happening {
	return api.Happening{Kind: api.HAsk, A: api.Ask{Dev: dev, At: at, Count: count}}
}

// writing is an ask to write these words.
func writing(dev, at int, l ...int) api.Happening {
	return api.Happening{Kind: api.HAsk, A: api.Ask{Dev: dev, At: at, Count: len(l), Write: true, Data: l}}
}

// got is what must be told of a device that reads these words, which are in a row in
// memory from at on and are seen from seen on.
func got(dev, seen, at int, l ...int) api.Told {
	say := api.Told{Done: true, Data: l}
	for k, w := range l {
		say.Touched = append(say.Touched, api.Touch{Dev: dev, Seen: seen + k, At: at + k, Value: w})
	}
	return say
}

// gave is got of one that writes them.
func gave(dev, seen, at int, l ...int) api.Told {
	say := got(dev, seen, at, l...)
	say.Data = nil
	for k := range say.Touched {
		say.Touched[k].Write = true
	}
	return say
}

// refused is what must be told of a fault with nothing touched ahead of it.
func refused(cause int) api.Told { return api.Told{Fault: cause} }

// word is a change of one word of memory.
func word(at, w int) func(*api.Machine) { return func(m *api.Machine) { m.M.W[at] = w } }

// also is several changes.
func also(l ...func(*api.Machine)) func(*api.Machine) {
	return func(m *api.Machine) {
		for _, change := range l {
			change(m)
		}
	}
}

// toRing is the change of the first fault that is told.
func toRing(w int) func(*api.Machine) {
	return func(m *api.Machine) { m.M.W[52], m.B.Faults.Tail = w, 5 }
}

// line is the change of one line more behind all.
func line(x api.Line) func(*api.Machine) {
	return func(m *api.Machine) { m.B.Cache = append(m.B.Cache, x) }
}
