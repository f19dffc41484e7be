package audit

import (
	"slices"
	"testing"

	"drawbridge/api"
	"drawbridge/machine"
)

// ask is a happening: a device asks for words, all of one page, to read them or to
// write these.
func ask(dev, at int, data ...int) api.Happening {
	return api.Happening{Kind: api.HAsk, A: api.Ask{Dev: dev, At: at, Count: max(1, len(data)), Write: len(data) > 0, Data: data}}
}

// then is the machines of a script with one happening more, and what is told of it.
func then(t *testing.T, l []api.Machine, x api.Happening) ([]api.Machine, api.Told) {
	t.Helper()
	m, told, e := machine.Do(l[len(l)-1], x)
	if e != api.OK {
		t.Fatalf("%+v: %v", x, e)
	}
	return append(slices.Clip(l), m), told
}

// TestAPageThatIsRemembered: a touch by what is remembered alone is fair by a machine
// of before, and by none since its page was dropped.
func TestAPageThatIsRemembered(t *testing.T) {
	order := func(m *api.Machine) { m.M.W[320+3], m.B.Orders.Tail = api.DropAll, 4 }
	l := []api.Machine{changed(order)}
	l, told := then(t, l, ask(0, 3))
	x := reading(0, 0, 9, 3)
	x.Value = 40075
	if !slices.Equal(told.Touched, []api.Touch{x}) {
		t.Fatalf("%+v is told", told)
	}
	fairIs(t, "by the tables", l, x, 1)

	l, _ = then(t, l, ask(1, 24, 0)) // device 1 takes the page out of the table
	l, told = then(t, l, ask(0, 3, 5))
	x = writing(0, 0, 9, 3)
	x.Value = 5
	if !slices.Equal(told.Touched, []api.Touch{x}) {
		t.Fatalf("%+v is told", told)
	}
	fairIs(t, "by what is remembered", l, x, 1)
	fairIs(t, "by what is remembered, since the table is another", l[2:], x, -1)

	l, _ = then(t, l, api.Happening{Kind: api.HOrder})
	l, told = then(t, l, ask(0, 3))
	if told.Fault != api.NoPage || len(told.Touched) != 0 {
		t.Fatalf("%+v is told", told)
	}
	fairIs(t, "since it was dropped", l[4:], x, -1)
	l, _ = then(t, l, ask(1, 24, 15+16*9))
	fairIs(t, "since it is in the table again", l[4:], x, 2)
	fairIs(t, "of all of it", l, x, 6)
}

// TestALineThatNeverWas: from no empty cache on, a touch may be fair by no machine.
func TestALineThatNeverWas(t *testing.T) {
	l, told := then(t, []api.Machine{changed(lines(full()...))}, ask(2, 3, 9))
	if len(told.Touched) != 1 {
		t.Fatalf("%+v is told", told)
	}
	fairIs(t, "a line", l, told.Touched[0], -1)
}

// mixer is numbers that look mixed, the same ones each time.
type mixer uint32

func (x *mixer) below(n int) int {
	*x = *x*1664525 + 1013904223
	return int(uint32(*x)>>8) % n
}

// any is one happening: an ask of device 0, a change of its table by device 1, or a
// line that is forgotten.
func (x *mixer) any() api.Happening {
	words := []int{0, 11 + 16*9, 15 + 16*9, 15 + 16*10, 3}
	switch x.below(4) {
	case 0:
		return ask(1, 24+x.below(2), words[x.below(len(words))])
	case 1:
		return api.Happening{Kind: api.HEvict}
	case 2:
		return ask(0, x.below(16))
	default:
		return ask(0, x.below(16), x.below(65536))
	}
}

// TestScriptsAreFair: from an empty cache on, each touch of a script is fair by some
// machine of it since its page was last dropped, and as it isn't, it is not.
func TestScriptsAreFair(t *testing.T) {
	late, x := 0, mixer(1)
	for range 20 {
		l, since := []api.Machine{world()}, [8][64]int{}
		for len(l) < 121 {
			y := x.any()
			m, told, e := machine.Do(l[len(l)-1], y)
			if e != api.OK {
				continue
			}
			if y.Kind == api.HEvict {
				gone := l[len(l)-1].B.Cache[0]
				since[gone.Dev][gone.Page] = len(l)
			}
			for _, touch := range told.Touched {
				from := l[since[touch.Dev][touch.Seen/8]:]
				k, e := Fair(from, touch)
				if k < 0 || e != api.OK {
					t.Fatalf("%+v: %d, %v of %d machines", touch, k, e, len(from))
				}
				if k < len(from)-1 {
					late++
				}
				touch.At = 8*60 + touch.At%8
				fairIs(t, "where nothing leads", from, touch, -1)
			}
			l = append(l, m)
		}
	}
	if late == 0 {
		t.Error("nothing was touched by what is remembered alone: this tests little")
	}
}
