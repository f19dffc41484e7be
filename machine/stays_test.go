package machine

import (
	"slices"
	"testing"

	"drawbridge/api"
)

// marker fills spare room, so that what is written behind a list is seen; spoilt is
// written over what is answered, and is unlike all that is handed in.
const (
	marker = -77
	spoilt = -78
)

var (
	noLine      = api.Line{Dev: marker, Page: marker, At: marker}
	spoiltLine  = api.Line{Dev: spoilt, Page: spoilt, At: spoilt}
	spoiltTouch = api.Touch{Dev: spoilt, Seen: spoilt, At: spoilt}
)

// roomy is a list with room behind it, and all of that, room and list.
func roomy[T any](l []T, mark T) ([]T, []T) {
	whole := append(slices.Clone(l), mark, mark, mark)
	return whole[:len(l)], whole
}

// spoil fills a list, and the room behind it.
func spoil[T any](l []T, x T) {
	l = l[:cap(l)]
	for k := range l {
		l[k] = x
	}
}

func spoilMachine(m api.Machine) {
	spoil(m.M.W, spoilt)
	spoil(m.H.R, spoilt)
	spoil(m.B.Cache, spoiltLine)
}

func spoilTold(say api.Told) {
	spoil(say.Data, spoilt)
	spoil(say.Touched, spoiltTouch)
}

// handed is a machine and the words of an ask with room behind each list, what list
// and room are together, and what they were.
type handed struct {
	m          api.Machine
	data       []int
	whole, was lists
}

type lists struct {
	words, regs, data []int
	lines             []api.Line
}

func handIn(m api.Machine, data []int) handed {
	h := handed{m: m}
	h.m.M.W, h.whole.words = roomy(m.M.W, marker)
	h.m.H.R, h.whole.regs = roomy(m.H.R, marker)
	h.m.B.Cache, h.whole.lines = roomy(m.B.Cache, noLine)
	h.data, h.whole.data = roomy(data, marker)
	h.was = lists{slices.Clone(h.whole.words), slices.Clone(h.whole.regs), slices.Clone(h.whole.data), slices.Clone(h.whole.lines)}
	return h
}

func (h handed) stays() bool {
	return slices.Equal(h.whole.words, h.was.words) && slices.Equal(h.whole.regs, h.was.regs) &&
		slices.Equal(h.whole.data, h.was.data) && slices.Equal(h.whole.lines, h.was.lines)
}

// eachSort is a happening of each sort: of each kind, with an error and with none.
func eachSort() map[string]api.Happening {
	return map[string]api.Happening{
		"a step": step, "an order": obey, "the first line": evict(0), "the last line": evict(5), "no line": evict(6),
		"to read": reading(2, 300, 3), "to read and remember": reading(0, 6, 4), "to read so far": reading(0, 15, 4),
		"to write": writing(2, 300, 1, 2, 3), "to write and remember": writing(0, 70, 1, 2, 3), "to write so far": writing(0, 6, 1, 2, 3),
		"to write the tables": writing(1, 24, 0, 0, 0), "a fault": reading(3, 8, 1), "a fault, to write": writing(3, 8, 1),
		"a bad ask": reading(8, 0, 1), "a bad word": writing(2, 300, 1, -1), "nothing": {}, "nothing, with words": {Kind: 5, A: writing(2, 300, 1).A},
	}
}

// eachState is a right machine of each sort: whose step, order and asks are done, and
// whose aren't.
func eachState() map[string]api.Machine {
	busy := ordered(order(api.DropDev, 0, 0))
	busy.M.W[96] = put(api.IStore, 0, 1, 0)
	ends := ordered(order(api.Fence, 0, 0))
	ends.B.Cache = ends.B.Cache[:1]
	late := holding(full()...)
	late.H.Done, late.B.Stopped, late.B.Lost = true, true, true
	stops := ordered(4)
	stops.M.W[96], stops.B.Mode = put(api.ISet, 1, 0, 2), api.Bare
	return map[string]api.Machine{
		"busy": busy, "ends": ends, "late": late, "stops": stops, "empty": world(),
		"off": changed(func(m *api.Machine) { m.B.Mode = api.Off }), "wrong": changed(word(511, -1)),
	}
}

func TestWhatIsHandedIntoDoStays(t *testing.T) {
	for name, m := range eachState() {
		for sort, x := range eachSort() {
			h := handIn(m, x.A.Data)
			x.A.Data = h.data
			n, told, _ := Do(h.m, x)
			if !h.stays() {
				t.Errorf("%s, %s: something that was handed in is changed", name, sort)
			}
			spoilMachine(n)
			spoilTold(told)
			if !h.stays() {
				t.Errorf("%s, %s: what is answered shares something with what was handed in", name, sort)
			}
		}
	}
}

func TestWhatIsHandedIntoCheckAndSameStays(t *testing.T) {
	for name, m := range eachState() {
		h, g := handIn(m, nil), handIn(m, nil)
		Check(h.m)
		Same(h.m, g.m)
		Same(g.m, world())
		if !h.stays() || !g.stays() {
			t.Errorf("%s: something that was handed in is changed", name)
		}
	}
}

// allSorts is a script of every sort of happening, with several of those that write.
func allSorts() []api.Happening {
	l := []api.Happening{}
	sorts := eachSort()
	for _, name := range []string{
		"to write", "a step", "an order", "to read and remember", "to read", "no line", "a fault", "to write and remember", "nothing",
		"to write so far", "the first line", "a bad ask", "to read so far", "to write the tables", "a step", "to read", "to write", "an order",
	} {
		l = append(l, sorts[name])
	}
	return l
}

func TestWhatIsHandedIntoRunStays(t *testing.T) {
	for name, m := range eachState() {
		for _, count := range []int{0, 1, 2, 18} {
			h := handIn(m, nil)
			script, whole := roomy(allSorts()[:count], api.Happening{Kind: marker})
			data := []handed{}
			for k := range script {
				d := handIn(api.Machine{}, script[k].A.Data)
				script[k].A.Data, data = d.data, append(data, d)
			}
			was := slices.Clone(whole)

			n, told, said, _ := Run(h.m, script)
			spoilMachine(n)
			spoil(said, spoilt)
			for _, say := range told {
				spoilTold(say)
			}
			spoil(told, api.Told{Fault: spoilt})
			changed := slices.ContainsFunc(data, func(d handed) bool { return !d.stays() })
			if changed || !h.stays() || !slices.EqualFunc(whole, was, sameHappening) {
				t.Errorf("%s, %d happenings: something that was handed in is changed", name, count)
			}
		}
	}
}

func sameHappening(a, b api.Happening) bool {
	return a.Kind == b.Kind && a.N == b.N && a.A.Dev == b.A.Dev && a.A.At == b.A.At &&
		a.A.Count == b.A.Count && a.A.Write == b.A.Write && slices.Equal(a.A.Data, b.A.Data)
}

// TestListsOfOneAnswer: spoiling one of them leaves all others as they were.
func TestListsOfOneAnswer(t *testing.T) {
	for name, m := range eachState() {
		n, told, _, e := Run(m, allSorts())
		if e != api.OK {
			continue
		}
		for k := range told {
			was, words, regs := make([]api.Told, len(told)), slices.Clone(n.M.W), slices.Clone(n.H.R)
			for j, say := range told {
				was[j] = say
				was[j].Data, was[j].Touched = slices.Clone(say.Data), slices.Clone(say.Touched)
			}
			spoilTold(told[k])
			told[k].Data, told[k].Touched = was[k].Data, was[k].Touched
			if !slices.EqualFunc(told, was, sameTold) || !slices.Equal(n.M.W, words) || !slices.Equal(n.H.R, regs) {
				t.Errorf("%s: what is told of happening %d shares something", name, k)
			}
		}
		words := slices.Clone(n.M.W)
		spoil(n.H.R, spoilt)
		if !slices.Equal(n.M.W, words) {
			t.Errorf("%s: registers and memory share something", name)
		}
	}
}

// TestWordsAndRegistersOfOneList: what is handed in may share what it likes.
func TestWordsAndRegistersOfOneList(t *testing.T) {
	for name, m := range eachState() {
		for sort, x := range eachSort() {
			m := clone(m)
			m.H.R = m.M.W[296:304]
			if x.A.Data != nil {
				x.A.Data = m.M.W[300 : 300+len(x.A.Data)]
			}
			y := x
			y.A.Data = slices.Clone(x.A.Data)
			want, say, q := Do(clone(m), y)
			n, told, e := Do(m, x)
			if e != q || !alike(n, want) || !sameTold(told, say) {
				t.Errorf("%s, %s: %+v, %+v, %v, want %+v, %+v, %v", name, sort, n.H, told, e, want.H, say, q)
			}
		}
	}
}

func TestTwiceTheSame(t *testing.T) {
	for name, m := range eachState() {
		n, told, said, e := Run(m, allSorts())
		k, say, errors, q := Run(m, allSorts())
		if e != q || !alike(n, k) || !slices.EqualFunc(told, say, sameTold) || !slices.Equal(said, errors) {
			t.Errorf("%s: once %+v, %v, once %+v, %v", name, n.H, said, k.H, errors)
		}
	}
}
