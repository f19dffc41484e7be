package audit

import (
	"slices"
	"testing"

	"drawbridge/api"
	"drawbridge/machine"
)

// marker fills spare room, so that what is written behind a list is seen.
const marker = -77

// roomy is a list with room behind it, and all of that, room and list.
func roomy[T any](l []T, mark T) ([]T, []T) {
	whole := append(slices.Clone(l), mark, mark, mark)
	return whole[:len(l)], whole
}

// handIn is machines with room behind each list of theirs, and the same machines with
// that room as part of these lists.
func handIn(l []api.Machine) ([]api.Machine, []api.Machine) {
	in, whole := slices.Clone(l), slices.Clone(l)
	for k, m := range l {
		in[k].M.W, whole[k].M.W = roomy(m.M.W, marker)
		in[k].H.R, whole[k].H.R = roomy(m.H.R, marker)
		in[k].B.Cache, whole[k].B.Cache = roomy(m.B.Cache, api.Line{Dev: marker})
	}
	return in, whole
}

// copyOf is machines that share no list with those of l.
func copyOf(l []api.Machine) []api.Machine {
	n := slices.Clone(l)
	for k := range n {
		n[k].M.W, n[k].H.R, n[k].B.Cache = slices.Clone(n[k].M.W), slices.Clone(n[k].H.R), slices.Clone(n[k].B.Cache)
	}
	return n
}

// rows are machines of every sort, right ones and wrong ones.
func rows() [][]api.Machine {
	all := []api.Machine{}
	for _, x := range moments() {
		all = append(all, x.m)
	}
	l := [][]api.Machine{nil, all[:1], all, slices.Repeat(all[:1], 121), slices.Repeat(all[:1], 122)}
	for _, c := range wrongs() {
		l = append(l, append(slices.Clone(all), changed(c.change)), []api.Machine{changed(c.change), all[0]})
	}
	return l
}

func TestWhatIsHandedInStays(t *testing.T) {
	touches := []api.Touch{reading(0, 0, 9, 3), writing(0, 0, 9, 3), reading(0, 0, 33, 3), reading(2, 0, 36, 3)}
	for _, c := range wrongTouches() {
		touches = append(touches, c.x)
	}
	for k, row := range rows() {
		in, whole := handIn(row)
		was := copyOf(whole)
		list, room := roomy(in, api.Machine{H: api.Hart{At: marker}})
		before := copyOf(room)
		for _, x := range touches {
			Fair(list, x)
			if !slices.EqualFunc(whole, was, machine.Same) || !slices.EqualFunc(room, before, machine.Same) {
				t.Fatalf("row %d, %+v: something that was handed in is changed", k, x)
			}
		}
	}
}

func TestTwiceTheSame(t *testing.T) {
	for k, row := range rows() {
		for _, x := range []api.Touch{reading(0, 0, 9, 3), writing(0, 0, 9, 3), reading(2, 0, 36, 3), {Dev: 8}} {
			n, e := Fair(row, x)
			again, q := Fair(copyOf(row), x)
			if n != again || e != q {
				t.Errorf("row %d, %+v: once %d, %v, once %d, %v", k, x, n, e, again, q)
			}
		}
	}
}
