package machine

import (
	"slices"
	"testing"

	"drawbridge/api"
	"drawbridge/bridge"
)

// past is what a machine was, moment by moment, and for each page of each device the
// first moment since it was last dropped.
type past struct {
	moments []api.Machine
	since   [8][64]int
	late    int // touches that memory doesn't allow any more, only what is remembered
}

func pastOf(m api.Machine) past { return past{moments: []api.Machine{m}} }

func (p past) now() api.Machine { return p.moments[len(p.moments)-1] }

// may says whether a device may have what it touched, by memory and bridge alone, at
// the moment.
func may(m api.Machine, x api.Touch) bool {
	at, cause, e := bridge.Plain(m.M, m.B, x.Dev, x.Seen/8, x.Write)
	return e == api.OK && cause == api.None && x.At == 8*at+x.Seen%8
}

// mightSince says whether it may at some moment since its page was last dropped.
func (p past) mightSince(x api.Touch) bool {
	return slices.ContainsFunc(p.moments[p.since[x.Dev][x.Seen/8]:], func(m api.Machine) bool { return may(m, x) })
}

// then is the past with one moment more, and with what was dropped on the way to it:
// what an order names, and what is no line any more.
func (p past) then(n api.Machine, x api.Happening) past {
	was := p.now()
	p.moments = append(slices.Clip(p.moments), n)
	for dev := range p.since {
		for page := range p.since[dev] {
			of := func(l api.Line) bool { return l.Dev == dev && l.Page == page }
			gone := slices.ContainsFunc(was.B.Cache, of) && !slices.ContainsFunc(n.B.Cache, of)
			if gone || x.Kind == api.HOrder && names(was, dev, page) {
				p.since[dev][page] = len(p.moments) - 1
			}
		}
	}
	return p
}

// names says whether the order that waits names a device's page, by the word's sum.
func names(m api.Machine, dev, page int) bool {
	r := m.B.Orders
	if m.B.Stopped || r.Head == r.Tail {
		return false
	}
	w := m.M.W[8*r.Page+r.Head]
	return w == order(api.DropAll, 0, 0) || w == order(api.DropDev, dev, 0) || w == order(api.DropOne, dev, page)
}

// pieces is a happening page by page, as a burst may change what it goes by: there
// are moments within it.
func pieces(x api.Happening) []api.Happening {
	if x.Kind != api.HAsk {
		return []api.Happening{x}
	}
	l := []api.Happening{}
	for from := 0; from < x.A.Count; {
		to := min(x.A.Count, from+8-(x.A.At+from)%8)
		y := x
		y.A.At, y.A.Count, y.A.Data = x.A.At+from, to-from, nil
		if x.A.Write {
			y.A.Data = x.A.Data[from:to]
		}
		l, from = append(l, y), to
	}
	return l
}

// happens is the past when one thing more has happened, where all that is touched
// must be what it might since.
func (p past) happens(t *testing.T, x api.Happening) (past, api.Told, api.Errno) {
	t.Helper()
	all := api.Told{}
	for _, y := range pieces(x) {
		n, told, e := Do(p.now(), y)
		if e != api.OK {
			return p, api.Told{}, e
		}
		for _, touch := range told.Touched {
			if !p.mightSince(touch) {
				t.Errorf("%+v is touched, and it might not since moment %d of %d", touch, p.since[touch.Dev][touch.Seen/8], len(p.moments))
			}
			if !may(p.now(), touch) {
				p.late++
			}
		}
		p = p.then(n, y)
		all.Done, all.Fault = told.Done, told.Fault
		all.Data, all.Touched = append(all.Data, told.Data...), append(all.Touched, told.Touched...)
		if told.Fault != api.None {
			break
		}
	}
	return p, all, api.OK
}

// looping is a machine whose hart writes device 0's table and sets the bridge, over
// and over, and in whose ring an order of each kind waits.
func looping() api.Machine {
	m := ordered(order(api.DropOne, 0, 0), order(api.Fence, 0, 0), order(api.DropDev, 0, 0), order(api.DropAll, 0, 0),
		order(api.DropOne, 0, 1), order(api.DropDev, 1, 0), order(api.DropAll, 0, 0))
	m.M.W[42] = order(api.DropDev, 0, 0)
	m.B.Cache, m.H.At, m.H.R = nil, 56, []int{0, 24, 11 + 16*51, 15 + 16*52, api.Bare, api.On, 2, 6}
	copy(m.M.W[56:], []int{
		put(api.IStore, 2, 1, 0), // device 0's page 0 is at 51, to read
		put(api.IStore, 3, 1, 0), // at 52, to read and write
		put(api.IOut, 4, 0, api.RMode),
		put(api.IStore, 0, 1, 0), // nowhere
		put(api.IOut, 5, 0, api.RMode),
		put(api.IOut, 0, 0, api.RState),
		put(api.IOut, 6, 0, api.RPut), // more orders wait: the ring has one at each word
		put(api.IOut, 7, 0, api.RPut),
		put(api.ISame, 0, 0, 56),
	})
	return m
}

// letters are what the scripts are made of.
func letters() []api.Happening {
	return []api.Happening{
		step, obey, evict(0),
		reading(0, 7, 2),         // the pages 0 and 1
		writing(0, 6, 1, 2),      // the page 0
		writing(1, 24, 0),        // device 0's page 0 is nowhere
		writing(1, 24, 15+16*54), // it is at 54
		writing(1, 39, 0, 1, 3),  // a word of its own table, and two of the ring of orders
		reading(2, 400, 3),
	}
}

// TestEveryScriptOfFive: of these letters, from an empty cache on.
func TestEveryScriptOfFive(t *testing.T) {
	late := 0
	var from func(p past, left int)
	from = func(p past, left int) {
		late += p.late
		if left == 0 || t.Failed() {
			return
		}
		p.late = 0
		for _, x := range letters() {
			if n, _, e := p.happens(t, x); e == api.OK {
				from(n, left-1)
			}
		}
	}
	from(pastOf(looping()), 5)
	if late == 0 {
		t.Error("nothing was touched by what is remembered alone: this tests nothing")
	}
}

// mixer is numbers that look mixed, the same ones each time.
type mixer uint32

func (x *mixer) below(n int) int {
	*x = *x*1664525 + 1013904223
	return int(uint32(*x)>>8) % n
}

// anyHappening is one of any sort; asks are mostly of the devices that have tables.
func anyHappening(x *mixer) api.Happening {
	switch x.below(8) {
	case 0, 1:
		return step
	case 2:
		return obey
	case 3:
		return evict(x.below(7) - 1)
	case 4:
		return letters()[x.below(len(letters()))]
	case 5:
		return reading(x.below(4), x.below(100), 1+x.below(20))
	case 6:
		return writing(0, x.below(80), slices.Repeat([]int{x.below(65536)}, 1+x.below(20))...)
	default:
		words := []int{0, 15 + 16*50, 11 + 16*51, 15 + 16*53, 1 + 16*3, 3}
		return writing(1, 24+x.below(8), words[x.below(len(words))])
	}
}

// TestLongScripts: of Run, from an empty cache on; what it tells, and what it leaves,
// is what comes moment by moment.
func TestLongScripts(t *testing.T) {
	late, lines, x := 0, 0, mixer(1)
	for range 150 {
		script := []api.Happening{}
		for range 120 {
			script = append(script, anyHappening(&x))
		}
		n, told, said, e := Run(looping(), script)
		if e != api.OK || len(told) != 120 || len(said) != 120 {
			t.Fatalf("Run: %v, %d told, %d errors", e, len(told), len(said))
		}
		p := pastOf(looping())
		for k, y := range script {
			then, say, q := p.happens(t, y)
			if q != said[k] || !sameTold(say, told[k]) {
				t.Fatalf("happening %d, %+v: Run tells %+v, %v, want %+v, %v", k, y, told[k], said[k], say, q)
			}
			p = then
			lines = max(lines, len(p.now().B.Cache))
		}
		if !alike(n, p.now()) {
			t.Fatal("Run leaves another machine than it must")
		}
		late += p.late
	}
	if late == 0 || lines != api.MaxCache {
		t.Errorf("%d touches by what is remembered alone, %d lines at most: this tests little", late, lines)
	}
}

// TestWithNothingRemembered: where all is forgotten ahead of each ask, what is touched
// is what may be then.
func TestWithNothingRemembered(t *testing.T) {
	touched, x := 0, mixer(2)
	m := looping()
	for range 3000 {
		y := anyHappening(&x)
		if y.Kind == api.HAsk {
			y = pieces(y)[0]
		}
		for len(m.B.Cache) > 0 {
			m, _, _ = Do(m, evict(len(m.B.Cache)-1))
		}
		n, told, e := Do(m, y)
		for _, touch := range told.Touched {
			touched++
			if !may(m, touch) {
				t.Fatalf("%+v: %+v is touched, and it may not", y, touch)
			}
		}
		if e == api.OK {
			m = n
		}
	}
	if touched == 0 {
		t.Error("nothing was touched: this tests nothing")
	}
}

// TestWhileItIsOff: no device touches anything, whatever is remembered.
func TestWhileItIsOff(t *testing.T) {
	m := holding(full()...)
	m.B.Mode = api.Off
	for dev := range 8 {
		for at := 0; at < 493; at += 9 {
			for _, x := range []api.Happening{reading(dev, at, 20), writing(dev, at, make([]int, 20)...)} {
				_, told, e := Do(m, x)
				if e != api.OK || !sameTold(told, refused(api.Shut)) {
					t.Errorf("off: Do of %+v: %+v, %v", x, told, e)
				}
			}
		}
	}
}

// TestWhatIsNotLetThrough: it changes nothing but the ring of faults.
func TestWhatIsNotLetThrough(t *testing.T) {
	refusals := 0
	for name, m := range eachState() {
		for dev := range 8 {
			for at := 0; at < 512; at += 5 {
				for _, x := range []api.Happening{reading(dev, at, 1), writing(dev, at, 5)} {
					n, told, e := Do(m, x)
					if e != api.OK || told.Fault == api.None {
						continue
					}
					refusals++
					want := clone(m)
					copy(want.M.W[48:56], n.M.W[48:56])
					want.B.Faults.Tail, want.B.Lost = n.B.Faults.Tail, n.B.Lost
					if !alike(n, want) || told.Done || len(told.Data)+len(told.Touched) != 0 {
						t.Errorf("%s: Do of %+v isn't let through, and changes more than the ring, or tells %+v", name, x, told)
					}
				}
			}
		}
	}
	if refusals == 0 {
		t.Error("all was let through: this tests nothing")
	}
}

// TestFromAnEmptyCacheOnAlone: a line that never was so is believed, as nothing in a
// machine tells it apart.
func TestFromAnEmptyCacheOnAlone(t *testing.T) {
	m := holding(full()...)
	_, told, e := Do(m, writing(3, 72, 5))
	if e != api.OK || !sameTold(told, gave(3, 72, 296, 5)) {
		t.Fatalf("a line that is handed in: %+v, %v", told, e)
	}
	if pastOf(m).mightSince(told.Touched[0]) {
		t.Error("memory and bridge let it through by themselves")
	}
}

// TestAMomentWithinABurst: one that writes itself a way to its second page, and then
// through that page takes it away again, touches what it may at no other moment.
func TestAMomentWithinABurst(t *testing.T) {
	m := changed(also(word(17, 0), word(31, 15+16*2), word(56, 15+16*2))) // page 7 is at 2, where its tables are
	way, back := slices.Clone(m.M.W[16:24]), m.M.W[16:24]
	way[1] = 1 + 16*7 // page 8 by the table at page 7: at 2, too
	x := writing(0, 56, slices.Concat(way, back)...)
	p, told, e := pastOf(m).happens(t, x)
	if e != api.OK || !told.Done || len(told.Touched) != 16 {
		t.Fatalf("%+v, %v", told, e)
	}
	n, say, _ := Do(m, x)
	if !alike(n, p.now()) || !sameTold(say, told) || !slices.Equal(n.M.W, m.M.W) {
		t.Errorf("page by page it tells %+v, at once %+v", told, say)
	}
	for _, touch := range told.Touched[8:] {
		if may(m, touch) || may(n, touch) {
			t.Errorf("%+v may be ahead of the burst, or behind it", touch)
		}
	}
}
