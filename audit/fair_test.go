package audit

import (
	"slices"
	"testing"

	"drawbridge/api"
)

// TestEveryTouchOfOneMachine: of every device and page to every page, to read and to
// write, by a machine that is off, bare and on; what is remembered doesn't count.
func TestEveryTouchOfOneMachine(t *testing.T) {
	where := map[int]func(dev, page int, write bool) int{
		api.Off:  func(int, int, bool) int { return -1 },
		api.Bare: func(_, page int, _ bool) int { return page },
		api.On:   leads,
	}
	for k, to := range where {
		for _, l := range [][]api.Line{nil, full()} {
			one := []api.Machine{changed(mode(k), lines(l...))}
			for dev := range 8 {
				for page := range 64 {
					for at := range 64 {
						x := reading(dev, page, at, (page+at)%8)
						for _, x.Write = range []bool{false, true} {
							want := -1
							if to(dev, page, x.Write) == at {
								want = 0
							}
							fairIs(t, "one machine", one, x, want)
						}
					}
				}
			}
			if t.Failed() {
				return
			}
		}
	}
}

// TestAFaultIsAtNoPage: page 0 neither, though that is told with it.
func TestAFaultIsAtNoPage(t *testing.T) {
	for _, c := range []struct {
		name string
		m    api.Machine
		x    api.Touch
	}{
		{"off", changed(mode(api.Off)), reading(1, 0, 0, 5)},
		{"off, and remembered", changed(mode(api.Off), lines(api.Line{Read: true, Write: true})), writing(0, 0, 0, 5)},
		{"no context", world(), reading(2, 3, 0, 5)},
		{"a bad context", world(), reading(3, 0, 0, 5)},
		{"a context with a root, and all memory", world(), reading(4, 0, 0, 5)},
		{"no page", world(), reading(0, 2, 0, 5)},
		{"a bad entry", world(), reading(0, 3, 0, 5)},
		{"a leaf that isn't to read", world(), reading(0, 6, 0, 5)},
		{"a leaf that isn't to write", world(), writing(0, 7, 0, 5)},
	} {
		fairIs(t, c.name, []api.Machine{c.m}, c.x, -1)
	}
	for _, x := range []api.Touch{reading(0, 4, 0, 5), writing(0, 4, 0, 5), reading(0, 7, 0, 5), writing(7, 56, 0, 5)} {
		fairIs(t, "let through to page 0", []api.Machine{world()}, x, 0)
	}
}

// TestTheValueDoesNotCount: what was there is told, and memory may say otherwise.
func TestTheValueDoesNotCount(t *testing.T) {
	for _, value := range []int{0, 1, 40075, 65535} {
		for _, x := range []api.Touch{reading(0, 0, 9, 3), writing(0, 0, 9, 3)} {
			x.Value = value
			fairIs(t, "a value", []api.Machine{world()}, x, 0)
		}
	}
}

// moment is a machine, and whether it lets device 0 read, and write, its page 0 at 9.
type moment struct {
	name        string
	m           api.Machine
	read, write bool
}

func moments() []moment {
	to := func(at int, write bool) api.Line { return api.Line{At: at, Read: true, Write: write} }
	return []moment{
		{"as the tables say", world(), true, true},
		{"off", changed(mode(api.Off), lines(to(9, true))), false, false},
		{"bare", changed(mode(api.Bare), lines(to(9, true))), false, false},
		{"to read alone", changed(word(24, 11+16*9), lines(to(9, true))), true, false},
		{"elsewhere", changed(word(24, 15+16*10)), false, false},
		{"remembered, and gone from memory", changed(word(24, 0), lines(to(9, true))), false, false},
		{"remembered elsewhere", changed(lines(full()...)), true, true},
		{"remembered, to read alone", changed(lines(to(9, false))), true, true},
	}
}

// TestEveryRowOfFour: the last one that lets it be is the answer, be there one, several
// or none.
func TestEveryRowOfFour(t *testing.T) {
	read, write := reading(0, 0, 9, 3), writing(0, 0, 9, 3)
	var with func(l []api.Machine, lastRead, lastWrite int)
	with = func(l []api.Machine, lastRead, lastWrite int) {
		fairIs(t, "to read", l, read, lastRead)
		fairIs(t, "to write", l, write, lastWrite)
		if len(l) == 4 || t.Failed() {
			return
		}
		for _, x := range moments() {
			r, w := lastRead, lastWrite
			if x.read {
				r = len(l)
			}
			if x.write {
				w = len(l)
			}
			with(append(slices.Clip(l), x.m), r, w)
		}
	}
	with(nil, -1, -1)
}

// TestEachMomentAlone: so that a row that fails is told by its name.
func TestEachMomentAlone(t *testing.T) {
	for _, x := range moments() {
		for k, may := range []bool{x.read, x.write} {
			want := -1
			if may {
				want = 0
			}
			touch := reading(0, 0, 9, 3)
			touch.Write = k == 1
			fairIs(t, x.name, []api.Machine{x.m}, touch, want)
		}
	}
}

func TestNoMachine(t *testing.T) {
	for _, l := range [][]api.Machine{nil, {}, make([]api.Machine, 0, 3)} {
		fairIs(t, "to read", l, reading(1, 5, 5, 0), -1)
		fairIs(t, "to write", l, writing(1, 5, 5, 0), -1)
	}
}

// TestTheLongestRow: any one of its machines may be the one, the first and the last.
func TestTheLongestRow(t *testing.T) {
	off := changed(mode(api.Off))
	for _, count := range []int{1, 2, 120, 121} {
		l := slices.Repeat([]api.Machine{off}, count)
		fairIs(t, "none", l, writing(0, 0, 9, 3), -1)
		for k := range l {
			l[k] = world()
			fairIs(t, "one", l, writing(0, 0, 9, 3), k)
			l[0] = world()
			fairIs(t, "the first one, too", l, writing(0, 0, 9, 3), k)
			l[0], l[k] = off, off
		}
		fairIs(t, "all", slices.Repeat([]api.Machine{world()}, count), writing(0, 0, 9, 3), count-1)
	}
}

// TestOneTooMany is told ahead of all else.
func TestOneTooMany(t *testing.T) {
	touches := []api.Touch{reading(0, 0, 9, 3), writing(2, 0, 9, 3)}
	for _, c := range wrongTouches() {
		touches = append(touches, c.x)
	}
	for _, count := range []int{122, 123, 242, 1000} {
		for _, m := range []api.Machine{world(), changed(mode(api.Off)), {}, changed(word(0, -1))} {
			for _, x := range touches {
				fairFails(t, "too many", slices.Repeat([]api.Machine{m}, count), x, api.ErrMany)
			}
		}
	}
}

// TestAWrongMachine is told ahead of a wrong touch, wherever it is among right ones,
// and whatever these say.
func TestAWrongMachine(t *testing.T) {
	touches := []api.Touch{reading(0, 0, 9, 3), writing(2, 0, 9, 3)}
	for _, c := range wrongTouches() {
		touches = append(touches, c.x)
	}
	for _, c := range wrongs() {
		for k := range 4 {
			l := []api.Machine{world(), world(), world(), world()}
			c.change(&l[k])
			for _, x := range touches {
				fairFails(t, c.name, l, x, c.want)
				fairFails(t, c.name+", alone", l[k:k+1], x, c.want)
			}
		}
		l := slices.Repeat([]api.Machine{world()}, 121)
		l[120] = changed(c.change)
		fairFails(t, c.name+", the last one", l, touches[0], c.want)
	}
	fairFails(t, "nothing at all", make([]api.Machine, 121), api.Touch{Dev: 8}, api.ErrForm)
}

// TestTheFirstWrongMachine: of several wrong ones it is told.
func TestTheFirstWrongMachine(t *testing.T) {
	for _, c := range wrongs() {
		for _, d := range wrongs() {
			name := c.name + "; " + d.name
			a, b := changed(c.change), changed(d.change)
			fairFails(t, name, []api.Machine{a, b}, writing(0, 0, 9, 3), c.want)
			fairFails(t, name, []api.Machine{world(), a, world(), b}, api.Touch{Dev: 8}, c.want)
		}
	}
}

func TestAWrongTouch(t *testing.T) {
	off := changed(mode(api.Off))
	for _, c := range wrongTouches() {
		for _, l := range [][]api.Machine{nil, {}, {world()}, {off}, {world(), off}, slices.Repeat([]api.Machine{world()}, 121)} {
			fairFails(t, c.name, l, c.x, c.want)
		}
	}
}
