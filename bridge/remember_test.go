package bridge

import (
	"slices"
	"testing"

	"drawbridge/api"
)

// past is a machine that things happen to, and beside it, for each device and page,
// the memories that there were since it was last dropped.
type past struct {
	m     api.Mem
	b     api.Bridge
	since map[[2]int][]api.Mem
}

// watched are the devices and pages that the rows below ask for.
var watched = [][2]int{{0, 0}, {0, 1}, {1, 0}}

func newPast() *past {
	p := &past{m: world(), b: on(), since: map[[2]int][]api.Mem{}}
	for _, x := range watched {
		p.since[x] = []api.Mem{p.m}
	}
	return p
}

// lay puts another word into memory: a moment more that a line may be of.
func (p *past) lay(at, w int) {
	p.m = api.Mem{W: slices.Clone(p.m.W)}
	p.m.W[at] = w
	for x := range p.since {
		p.since[x] = append(p.since[x], p.m)
	}
}

// order has one obeyed, and forgets the moments of what that drops.
func (p *past) order(t *testing.T, w int, drops ...[2]int) {
	p.m = api.Mem{W: slices.Clone(p.m.W)}
	p.m.W[8*60] = w
	p.b.Orders = api.Ring{Page: 60, Tail: 1}
	e := api.OK
	if p.b, e = Obey(p.m, p.b); e != api.OK || p.b.Stopped {
		t.Fatalf("order %d: %+v, %v", w, p.b, e)
	}
	for _, x := range drops {
		p.since[x] = []api.Mem{p.m}
	}
}

// ask is a way through; what comes of it was so at one of these moments.
func (p *past) ask(t *testing.T, x [2]int, write bool) {
	n, got := throughOf(p.m, p.b, x[0], x[1], write)
	if got.fault == api.None && !p.wasSo(x, write, got) {
		t.Errorf("device %d, page %d, %s: %+v was never so since it was dropped", x[0], x[1], isTo(write), got)
	}
	if got.fault != api.None && !Same(n, p.b) {
		t.Errorf("device %d, page %d, %s: a fault, and %+v, which was %+v", x[0], x[1], isTo(write), n, p.b)
	}
	p.b = n
}

func (p *past) wasSo(x [2]int, write bool, want answer) bool {
	return slices.ContainsFunc(p.since[x], func(m api.Mem) bool {
		return plainOf(m, p.b, x[0], x[1], write) == want
	})
}

// holds: each line says what memory said at some moment since its page was dropped,
// and what isn't remembered is as memory says now.
func (p *past) holds(t *testing.T) {
	if e := Check(p.b); e != api.OK {
		t.Fatalf("Check of %+v: %v", p.b, e)
	}
	for _, x := range p.b.Cache {
		was := [2]int{x.Dev, x.Page}
		if !p.wasSo(was, false, comes(x.At)) || x.Write && !p.wasSo(was, true, comes(x.At)) {
			t.Errorf("%+v was never so since it was dropped", x)
		}
	}
	for _, x := range watched {
		known := slices.ContainsFunc(p.b.Cache, func(l api.Line) bool { return l.Dev == x[0] && l.Page == x[1] })
		for _, write := range []bool{false, true} {
			_, got := throughOf(p.m, p.b, x[0], x[1], write)
			if want := plainOf(p.m, p.b, x[0], x[1], write); !known && got != want {
				t.Errorf("device %d, page %d, %s, not remembered: %+v, want %+v", x[0], x[1], isTo(write), got, want)
			}
		}
	}
}

// happen is what may happen next, each by a number.
func (p *past) happen(t *testing.T, k int) {
	switch k {
	case 0:
		p.ask(t, watched[0], false)
	case 1:
		p.ask(t, watched[0], true)
	case 2:
		p.ask(t, watched[1], false)
	case 3:
		p.ask(t, watched[2], false)
	case 4:
		p.lay(64, 11+16*21) // page 0 of device 0 is at 21, to read
	case 5:
		p.lay(64, 15+16*22) // page 0 of device 0 is at 22, to write
	case 6:
		p.lay(40, 0) // device 0 has no context
	case 7:
		p.lay(40, 1+16*7) // device 0 has the tables of device 1
	case 8:
		p.order(t, 3, watched[0])
	case 9:
		p.order(t, 2, watched[0], watched[1])
	case 10:
		p.order(t, 1, watched...)
	case 11:
		p.order(t, 0)
	}
}

// TestWhatIsRememberedWasSo goes through every row of four happenings.
func TestWhatIsRememberedWasSo(t *testing.T) {
	const kinds = 12
	for row := range kinds * kinds * kinds * kinds {
		p := newPast()
		for left, k := row, 0; k < 4; left, k = left/kinds, k+1 {
			p.happen(t, left%kinds)
			p.holds(t)
		}
		if t.Failed() {
			t.Fatalf("in row %d", row)
		}
	}
}

// TestALongPast goes on with one machine, in an order that comes round late.
func TestALongPast(t *testing.T) {
	p := newPast()
	for k := range 3000 {
		p.happen(t, (k*k+k/7)%12)
		p.holds(t)
		if t.Failed() {
			t.Fatalf("at happening %d", k)
		}
		for x, l := range p.since { // the oldest can't be asked for without end
			p.since[x] = l[max(0, len(l)-200):]
		}
	}
}

// TestRememberedTillDropped is the way that one line goes: it stays while the table
// says otherwise, and a page that is dropped is as memory says.
func TestRememberedTillDropped(t *testing.T) {
	for _, c := range []struct {
		name string
		w    int
		stay bool
	}{
		{"a fence", 0, true},
		{"all", 1, false},
		{"its device", 2, false},
		{"another device", 2 + 4*1, true},
		{"its page", 3, false},
		{"another page", 3 + 32*1, true},
		{"its page of another device", 3 + 4*1, true},
	} {
		m := world()
		b, got := throughOf(m, on(), 0, 0, true)
		if got != comes(50) {
			t.Fatalf("%s: %+v", c.name, got)
		}
		m.W[64], m.W[482] = 0, c.w
		if _, got = throughOf(m, b, 0, 0, true); got != comes(50) {
			t.Errorf("%s: remembered no more ahead of the order: %+v", c.name, got)
		}
		plainIs(t, c.name, m, b, 0, 0, true, faulty(api.NoPage))
		b, e := Obey(m, b)
		if e != api.OK {
			t.Fatalf("%s: %v", c.name, e)
		}
		want := faulty(api.NoPage)
		if c.stay {
			want = comes(50)
		}
		if _, got = throughOf(m, b, 0, 0, true); got != want {
			t.Errorf("%s: %+v, want %+v", c.name, got, want)
		}
	}
}

// TestReadFirstThenWrite: a line is of what the entry lets it do, not of what was
// asked; and one that is to read alone stays so when the entry says more.
func TestReadFirstThenWrite(t *testing.T) {
	m := world()
	b, _ := throughOf(m, on(), 0, 0, false)
	m.W[64] = 11 + 16*50
	if _, got := throughOf(m, b, 0, 0, true); got != comes(50) {
		t.Errorf("asked to read, and remembered to write: %+v", got)
	}
	b, _ = throughOf(m, on(), 0, 0, false)
	m.W[64] = 15 + 16*50
	if _, got := throughOf(m, b, 0, 0, true); got != faulty(api.NoRight) {
		t.Errorf("remembered to read alone: %+v", got)
	}
	plainIs(t, "by memory", m, b, 0, 0, true, comes(50))
}

// TestTheOldestIsForgotten: of seven pages the first is as memory says again, and
// asking for a line that is there doesn't make it newer.
func TestTheOldestIsForgotten(t *testing.T) {
	m, b := world(), on()
	for page := 8; page < 14; page++ {
		b, _ = throughOf(m, b, 0, page, true)
	}
	b, _ = throughOf(m, b, 0, 8, true)
	b, _ = throughOf(m, b, 1, 56, true)
	m.W[49], m.W[63] = 0, 0
	for page := 8; page < 14; page++ {
		want := comes(page + 8)
		if page == 8 {
			want = faulty(api.NoPage)
		}
		if _, got := throughOf(m, b, 0, page, true); got != want {
			t.Errorf("page %d: %+v, want %+v", page, got, want)
		}
	}
	if _, got := throughOf(m, b, 1, 56, true); got != comes(8) {
		t.Errorf("the newest: %+v", got)
	}
}
