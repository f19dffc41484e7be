package machine

import (
	"slices"
	"testing"

	"drawbridge/api"
)

// runIs asks for a script that leaves the machine with a change, tells this and has
// these errors.
func runIs(t *testing.T, name string, m api.Machine, l []api.Happening, change func(*api.Machine), say []api.Told, errors []api.Errno) {
	t.Helper()
	want := clone(m)
	change(&want)
	n, told, said, e := Run(m, l)
	if e != api.OK {
		t.Errorf("%s: Run of %d happenings: %v", name, len(l), e)
		return
	}
	if !alike(n, want) {
		t.Errorf("%s: Run leaves another machine than it must: %+v, %+v, want %+v, %+v", name, n.H, n.B, want.H, want.B)
	}
	if !slices.Equal(said, errors) {
		t.Errorf("%s: Run has the errors %v, want %v", name, said, errors)
	}
	if !slices.EqualFunc(told, say, sameTold) {
		t.Errorf("%s: Run tells %+v, want %+v", name, told, say)
	}
}

// TestAPageThatIsRemembered: its table is written by the hart, it may be touched
// still, till an order that the hart has put drops it, and then as the table says.
func TestAPageThatIsRemembered(t *testing.T) {
	m := programmed(
		put(api.ISet, 1, 0, 24), put(api.ISet, 2, 0, 0), put(api.IStore, 2, 1, 0), // its entry is 0
		put(api.ISet, 3, 0, order(api.DropOne, 0, 0)), put(api.ISet, 4, 0, 40), put(api.IStore, 3, 4, 3), // an order into the ring
		put(api.ISet, 5, 0, 4), put(api.IOut, 5, 0, api.RPut),
		put(api.ILoad, 6, 1, 1), put(api.IStore, 6, 1, 0), // its entry is that of the page behind it
		0,
	)
	read, write := reading(0, 2, 1), writing(0, 2, 9)
	script := []api.Happening{
		read, step, step, step, read, write, // remembered
		step, step, step, step, step, read, obey, // the order waits, and is taken
		read, write, step, step, read, write, step, // by the table, as it is and as it is then
		step, obey, evict(1), evict(0), evict(0),
	}
	say := make([]api.Told, 25)
	say[0], say[4], say[5] = got(0, 2, 402, 40402), got(0, 2, 402, 40402), gave(0, 2, 402, 9)
	say[11], say[13], say[14] = got(0, 2, 402, 9), refused(api.NoPage), refused(api.NoPage)
	say[17], say[18] = got(0, 2, 410, 40410), refused(api.NoRight)
	errors := make([]api.Errno, 25)
	errors[20], errors[21], errors[22], errors[24] = api.ErrLate, api.ErrLate, api.ErrWho, api.ErrWho
	runIs(t, "a page", m, script, func(m *api.Machine) {
		m.M.W[24], m.M.W[43], m.M.W[402] = 11+16*51, order(api.DropOne, 0, 0), 9
		copy(m.M.W[52:], []int{fault(api.NoPage, 0, 0, false), fault(api.NoPage, 0, 0, true), fault(api.NoRight, 0, 0, true)})
		m.H = api.Hart{At: 106, R: []int{100, 24, 0, 3, 40, 4, 11 + 16*51, 107}, Done: true}
		m.B.Orders, m.B.Faults.Tail = api.Ring{Page: 5, Head: 4, Tail: 4}, 7
	}, say, errors)
}

// TestWhatHasAnErrorIsPassedOver: it changes nothing and tells nothing, and the next
// one is done all the same.
func TestWhatHasAnErrorIsPassedOver(t *testing.T) {
	bad := []struct {
		x    api.Happening
		want api.Errno
	}{
		{step, api.ErrLate}, {obey, api.ErrLate}, {api.Happening{}, api.ErrForm}, {api.Happening{Kind: 5}, api.ErrForm},
		{evict(-1), api.ErrWho}, {evict(6), api.ErrWho}, {reading(0, 0, 21), api.ErrMany}, {reading(8, 0, 1), api.ErrWho},
		{reading(0, 511, 2), api.ErrWho}, {writing(0, 0, 65536), api.ErrRange}, {api.Happening{Kind: api.HAsk, A: api.Ask{Count: 1, Write: true}}, api.ErrForm},
	}
	m := holding(full()...)
	m.H.Done = true
	for _, c := range bad {
		runIs(t, "alone", m, []api.Happening{c.x}, none, []api.Told{{}}, []api.Errno{c.want})
		for _, d := range bad {
			runIs(t, "between", m, []api.Happening{writing(2, 300, 5), c.x, d.x, reading(2, 300, 1), evict(5)},
				func(m *api.Machine) { m.M.W[300], m.B.Cache = 5, full()[:5] },
				[]api.Told{gave(2, 300, 300, 5), {}, {}, got(2, 300, 300, 5), {}},
				[]api.Errno{api.OK, c.want, d.want, api.OK, api.OK})
		}
	}
}

func TestAScriptOfNone(t *testing.T) {
	for name, m := range rightMachines() {
		for _, l := range [][]api.Happening{nil, {}} {
			runIs(t, name, m, l, none, nil, nil)
		}
	}
}

// TestTheLongestScript: all of it is done, the last one too.
func TestTheLongestScript(t *testing.T) {
	for _, count := range []int{1, 2, 119, 120} {
		l, say := []api.Happening{}, []api.Told{}
		for k := range count {
			l = append(l, writing(2, 300+k%8, k+1))
			say = append(say, gave(2, 300+k%8, 300+k%8, k+1))
		}
		runIs(t, "asks", world(), l, func(m *api.Machine) {
			for k := range count {
				m.M.W[300+k%8] = k + 1
			}
		}, say, make([]api.Errno, count))
	}
	late := slices.Repeat([]api.Errno{api.ErrLate}, 120)
	late[0] = api.OK
	runIs(t, "steps", programmed(0), slices.Repeat([]api.Happening{step}, 120),
		func(m *api.Machine) { m.H.Done = true }, make([]api.Told, 120), late)
	runIs(t, "nothing that there is", world(), make([]api.Happening, 120), none, make([]api.Told, 120), slices.Repeat([]api.Errno{api.ErrForm}, 120))
}

// TestOneTooMany: none of it is done, not even what would have no error.
func TestOneTooMany(t *testing.T) {
	for _, count := range []int{121, 122, 240, 1000} {
		for _, x := range []api.Happening{{}, step, obey, evict(0), reading(2, 300, 1), writing(2, 300, 5)} {
			for name, m := range rightMachines() {
				runFails(t, name, m, slices.Repeat([]api.Happening{x}, count), api.ErrMany)
			}
		}
	}
}

// TestTheMachineIsToldFirst: ahead of what is wrong with a happening, and of how many
// there are.
func TestTheMachineIsToldFirst(t *testing.T) {
	happenings := []api.Happening{
		{}, {Kind: 5}, step, obey, evict(-1), evict(0), reading(0, 0, 21), reading(8, 0, 1), writing(0, 0, -1), reading(2, 300, 1), writing(2, 300, 5),
	}
	for _, c := range everyWrong() {
		for _, done := range []bool{false, true} {
			m := changed(c.change)
			m.H.Done = m.H.Done || done
			for _, x := range happenings {
				doFails(t, c.name, m, x, c.want)
			}
			for _, count := range []int{0, 1, 120, 121} {
				runFails(t, c.name, m, make([]api.Happening, count), c.want)
			}
		}
	}
}

// TestRunIsDoOneByOne: of two happenings of every sort, one behind the other.
func TestRunIsDoOneByOne(t *testing.T) {
	sorts := []api.Happening{
		{}, {Kind: 5}, step, obey, evict(0), evict(5), evict(6), reading(0, 6, 20), writing(0, 6, 1, 2, 3), reading(3, 8, 1), writing(1, 24, 0), reading(8, 0, 1),
	}
	m := ordered(order(api.Fence, 0, 0), order(api.DropDev, 0, 0))
	copy(m.M.W[96:], []int{put(api.ISet, 1, 0, 24), put(api.IStore, 0, 1, 0)})
	for _, x := range sorts {
		for _, y := range sorts {
			now, say, errors := m, []api.Told{}, []api.Errno{}
			for _, z := range []api.Happening{x, y} {
				n, told, e := Do(now, z)
				if e == api.OK {
					now = n
				}
				say, errors = append(say, told), append(errors, e)
			}
			runIs(t, "two", m, []api.Happening{x, y}, func(m *api.Machine) { *m = now }, say, errors)
		}
	}
}
