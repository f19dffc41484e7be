package ring

import (
	"math"
	"slices"
	"testing"

	"drawbridge/api"
)

// marker fills spare room, so that a write behind the words is seen.
const marker = -77

var noPages = []int{-1, -64, math.MinInt, 64, 65, 512, math.MaxInt}

var noSteps = []int{-1, -8, math.MinInt, 8, 9, 63, math.MaxInt}

var noWords = []int{-1, -65536, math.MinInt, 65536, 65537, math.MaxInt}

var edgeWords = []int{0, 1, 255, 256, 32767, 32768, 65534, 65535}

// counted is memory whose words all differ.
func counted() api.Mem {
	w := make([]int, api.Words)
	for i := range w {
		w[i] = 1000 + i
	}
	return api.Mem{W: w}
}

// with is counted, with one word of any value at a place.
func with(at, w int) api.Mem {
	m := counted()
	m.W[at] = w
	return m
}

// long is a memory of n words, all of them w.
func long(n, w int) api.Mem { return api.Mem{W: slices.Repeat([]int{w}, n)} }

// roomy is m with spare room behind its words, and all of that room.
func roomy(m api.Mem) (api.Mem, []int) {
	whole := append(slices.Clone(m.W), slices.Repeat([]int{marker}, 40)...)
	return api.Mem{W: whole[:len(m.W)]}, whole
}

// allRings are all that there may be.
func allRings() []api.Ring {
	l := []api.Ring{}
	for page := range 64 {
		for head := range 8 {
			for tail := range 8 {
				l = append(l, api.Ring{Page: page, Head: head, Tail: tail})
			}
		}
	}
	return l
}

// badRings are wrong in one field, in two, and in all three.
func badRings() []api.Ring {
	l := []api.Ring{{Page: -1, Head: 8, Tail: -1}, {Page: 64, Head: -1, Tail: 8}}
	for _, p := range noPages {
		l = append(l, api.Ring{Page: p}, api.Ring{Page: p, Head: 7, Tail: 3}, api.Ring{Page: p, Head: 8}, api.Ring{Page: p, Tail: -1})
	}
	for _, s := range noSteps {
		l = append(l, api.Ring{Head: s}, api.Ring{Page: 63, Head: s, Tail: 7}, api.Ring{Page: 9, Head: s, Tail: s})
		l = append(l, api.Ring{Tail: s}, api.Ring{Page: 63, Head: 7, Tail: s})
	}
	return l
}

// badMems are memories that are refused, and why.
func badMems() []struct {
	name string
	m    api.Mem
	want api.Errno
} {
	return []struct {
		name string
		m    api.Mem
		want api.Errno
	}{
		{"no list", api.Mem{}, api.ErrForm},
		{"empty list", api.Mem{W: []int{}}, api.ErrForm},
		{"one too few", long(511, 4), api.ErrForm},
		{"one too many", long(513, 4), api.ErrForm},
		{"one too few, and bad words", long(511, -1), api.ErrForm},
		{"one too few, with room for more", api.Mem{W: long(600, 4).W[:511]}, api.ErrForm},
		{"first word -1", with(0, -1), api.ErrRange},
		{"a word of the ring 65536", with(73, 65536), api.ErrRange},
		{"last word 65536", with(511, 65536), api.ErrRange},
	}
}

// steps goes from Head to Tail one by one.
func steps(r api.Ring) int {
	n := 0
	for at := r.Head; at != r.Tail; n++ {
		if at++; at == 8 {
			at = 0
		}
	}
	return n
}

// after is the step behind another one, written out.
var after = [8]int{1, 2, 3, 4, 5, 6, 7, 0}

func pushFails(t *testing.T, name string, m api.Mem, r api.Ring, w int, want api.Errno) {
	t.Helper()
	n, s, e := Push(m, r, w)
	if e != want {
		t.Errorf("Push of %d into %v, %s: %v, want %v", w, r, name, e, want)
	}
	if len(n.W) != 0 || s != (api.Ring{}) {
		t.Errorf("Push of %d into %v, %s: an error, and %d words, %v", w, r, name, len(n.W), s)
	}
}

func popFails(t *testing.T, name string, m api.Mem, r api.Ring, want api.Errno) {
	t.Helper()
	w, s, e := Pop(m, r)
	if e != want {
		t.Errorf("Pop of %v, %s: %v, want %v", r, name, e, want)
	}
	if w != 0 || s != (api.Ring{}) {
		t.Errorf("Pop of %v, %s: an error, and %d, %v", r, name, w, s)
	}
}

func TestCheckOfRightRings(t *testing.T) {
	for _, r := range allRings() {
		if e := Check(r); e != api.OK {
			t.Errorf("Check of %v: %v", r, e)
		}
	}
}

func TestCheckOfWrongRings(t *testing.T) {
	for _, r := range badRings() {
		if e := Check(r); e != api.ErrRange {
			t.Errorf("Check of %v: %v, want ErrRange", r, e)
		}
	}
}

func TestLengthOfRightRings(t *testing.T) {
	for _, r := range allRings() {
		if got := Length(r); got != steps(r) {
			t.Errorf("Length of %v: %d, want %d", r, got, steps(r))
		}
	}
}

func TestLengthEdges(t *testing.T) {
	for _, c := range []struct{ head, tail, want int }{
		{0, 0, 0}, {7, 7, 0}, {0, 1, 1}, {6, 7, 1}, {7, 0, 1}, {0, 7, 7}, {1, 0, 7}, {7, 6, 7}, {6, 1, 3}, {1, 6, 5},
	} {
		if got := Length(api.Ring{Page: 63, Head: c.head, Tail: c.tail}); got != c.want {
			t.Errorf("Length from %d to %d: %d, want %d", c.head, c.tail, got, c.want)
		}
	}
}

// TestLengthOfWrongRingsEnds asks for no number, as none is promised, but for the
// same one twice.
func TestLengthOfWrongRingsEnds(t *testing.T) {
	for _, r := range badRings() {
		a, b := Length(r), Length(r)
		if a != b {
			t.Errorf("Length of %v: %d, then %d", r, a, b)
		}
	}
}

func TestPushIntoEveryRing(t *testing.T) {
	m := counted()
	for _, r := range allRings() {
		if steps(r) == 7 {
			pushFails(t, "full", m, r, 40000, api.ErrMany)
			continue
		}
		n, s, e := Push(m, r, 40000)
		if want := (api.Ring{Page: r.Page, Head: r.Head, Tail: after[r.Tail]}); e != api.OK || s != want {
			t.Errorf("Push into %v: %v, %v, want %v, OK", r, s, e, want)
		}
		if !slices.Equal(n.W, with(8*r.Page+r.Tail, 40000).W) {
			t.Errorf("Push into %v: not that word alone is changed", r)
		}
		if Length(s) != steps(r)+1 {
			t.Errorf("Push into %v: Length is %d then", r, Length(s))
		}
	}
	if !slices.Equal(m.W, counted().W) {
		t.Error("Push changed what was handed in")
	}
}

func TestPopOfEveryRing(t *testing.T) {
	m := counted()
	for _, r := range allRings() {
		if steps(r) == 0 {
			popFails(t, "empty", m, r, api.ErrLate)
			continue
		}
		w, s, e := Pop(m, r)
		if want := 1000 + 8*r.Page + r.Head; w != want || e != api.OK {
			t.Errorf("Pop of %v: %d, %v, want %d, OK", r, w, e, want)
		}
		if want := (api.Ring{Page: r.Page, Head: after[r.Head], Tail: r.Tail}); s != want {
			t.Errorf("Pop of %v: %v, want %v", r, s, want)
		}
		if Length(s) != steps(r)-1 {
			t.Errorf("Pop of %v: Length is %d then", r, Length(s))
		}
	}
	if !slices.Equal(m.W, counted().W) {
		t.Error("Pop changed what was handed in")
	}
}

func TestEveryEdgeWordComesBack(t *testing.T) {
	for _, page := range []int{0, 9, 63} {
		for at := range 8 {
			for _, w := range edgeWords {
				r := api.Ring{Page: page, Head: at, Tail: at}
				m, r, e := Push(counted(), r, w)
				if e != api.OK {
					t.Fatalf("Push of %d at %d of page %d: %v", w, at, page, e)
				}
				if got, s, e := Pop(m, r); got != w || e != api.OK || Length(s) != 0 {
					t.Errorf("Pop of %d at %d of page %d: %d, %v, %v", w, at, page, got, s, e)
				}
			}
		}
	}
}

func TestPushOfAWordThatMayNotBe(t *testing.T) {
	for _, w := range noWords {
		pushFails(t, "empty", counted(), api.Ring{Page: 9}, w, api.ErrRange)
		pushFails(t, "at the last word", counted(), api.Ring{Page: 63, Head: 2, Tail: 7}, w, api.ErrRange)
		pushFails(t, "full", counted(), api.Ring{Page: 9, Tail: 7}, w, api.ErrRange)
		pushFails(t, "full, round", counted(), api.Ring{Page: 63, Head: 5, Tail: 4}, w, api.ErrRange)
	}
}

func TestPushOfEveryEdgeWordIntoAFullRing(t *testing.T) {
	for _, w := range edgeWords {
		for tail, head := range after {
			pushFails(t, "full", counted(), api.Ring{Page: 9, Head: head, Tail: tail}, w, api.ErrMany)
		}
	}
}

func TestWrongRingsAreRefused(t *testing.T) {
	for _, r := range badRings() {
		popFails(t, "a wrong ring", counted(), r, api.ErrRange)
		for _, w := range []int{-1, 0, 65535, 65536} {
			pushFails(t, "a wrong ring", counted(), r, w, api.ErrRange)
		}
	}
}

// TestMemoryIsToldFirst has rings and words with an error of their own each, so
// that another one than the memory's would be seen.
func TestMemoryIsToldFirst(t *testing.T) {
	rings := []api.Ring{{Page: 9}, {Page: 9, Tail: 3}, {Page: 9, Tail: 7}, {Page: 9, Head: 1}, {Page: 63, Head: 7, Tail: 7}}
	for _, c := range badMems() {
		for _, r := range append(rings, badRings()...) {
			popFails(t, c.name, c.m, r, c.want)
			for _, w := range []int{-1, 0, 65535, 65536} {
				pushFails(t, c.name, c.m, r, w, c.want)
			}
		}
	}
}

func TestARingOfEightHasRoomForSeven(t *testing.T) {
	for at := range 8 {
		m, r, e := counted(), api.Ring{Page: 9, Head: at, Tail: at}, api.OK
		for k := range 7 {
			if m, r, e = Push(m, r, 50+k); e != api.OK {
				t.Fatalf("Push %d from %d on: %v", k, at, e)
			}
		}
		pushFails(t, "seven pushed", m, r, 57, api.ErrMany)
		for k := range 7 {
			w := 0
			if w, r, e = Pop(m, r); w != 50+k || e != api.OK {
				t.Errorf("Pop %d from %d on: %d, %v", k, at, w, e)
			}
		}
		popFails(t, "seven popped", m, r, api.ErrLate)
	}
}

// line is a ring in a memory beside a plain list of what waits in it.
type line struct {
	r       api.Ring
	waiting []int
}

// push pushes into both, and asks for the same of both.
func (l *line) push(t *testing.T, m api.Mem, w int) api.Mem {
	t.Helper()
	n, r, e := Push(m, l.r, w)
	if len(l.waiting) == 7 {
		if e != api.ErrMany {
			t.Fatalf("Push into %v with seven waiting: %v", l.r, e)
		}
		return m
	}
	if e != api.OK {
		t.Fatalf("Push into %v with %v waiting: %v", l.r, l.waiting, e)
	}
	l.r, l.waiting = r, append(l.waiting, w)
	return n
}

// pop pops from both, and asks for the same of both.
func (l *line) pop(t *testing.T, m api.Mem) {
	t.Helper()
	w, r, e := Pop(m, l.r)
	if len(l.waiting) == 0 {
		if e != api.ErrLate {
			t.Fatalf("Pop of %v with none waiting: %v", l.r, e)
		}
		return
	}
	if e != api.OK || w != l.waiting[0] {
		t.Fatalf("Pop of %v with %v waiting: %d, %v", l.r, l.waiting, w, e)
	}
	l.r, l.waiting = r, l.waiting[1:]
}

// TestWhatIsPushedComesInOrder goes through every row of ten pushes and pops, from
// every place of the ring.
func TestWhatIsPushedComesInOrder(t *testing.T) {
	for at := range 8 {
		for row := range 1 << 10 {
			m, l := counted(), line{r: api.Ring{Page: 31, Head: at, Tail: at}}
			for k := range 10 {
				if row>>k&1 == 1 {
					m = l.push(t, m, 7*k)
				} else {
					l.pop(t, m)
				}
			}
			for range l.waiting {
				l.pop(t, m)
			}
			l.pop(t, m)
		}
	}
}

// TestManyRounds keeps a ring at each length while it goes round many times.
func TestManyRounds(t *testing.T) {
	for length := range 8 {
		m, l := counted(), line{r: api.Ring{Page: 63, Head: 3, Tail: 3}}
		for k := range length {
			m = l.push(t, m, k)
		}
		for k := range 50 {
			if length < 7 {
				m = l.push(t, m, 100+k)
				l.pop(t, m)
			} else {
				l.pop(t, m)
				m = l.push(t, m, 100+k)
			}
			if Length(l.r) != length {
				t.Fatalf("Length %d, want %d", Length(l.r), length)
			}
		}
	}
}

func TestRingsOfUnlikePagesDoNotMix(t *testing.T) {
	m := counted()
	l := [3]line{{r: api.Ring{Page: 0, Head: 5, Tail: 5}}, {r: api.Ring{Page: 1}}, {r: api.Ring{Page: 63, Head: 7, Tail: 7}}}
	for k := range 200 {
		m = l[k%3].push(t, m, k)
		if k%5 > 0 {
			l[k*k%3].pop(t, m)
		}
	}
	for i, w := range m.W {
		if i >= 16 && i < 63*8 && w != 1000+i {
			t.Errorf("word %d of no ring is %d", i, w)
		}
	}
}

func TestPushAnswersNewMemory(t *testing.T) {
	for _, w := range []int{1000 + 8*9 + 3, 5} { // the first one is there already
		m, whole := roomy(counted())
		before := slices.Clone(whole)
		n, _, e := Push(m, api.Ring{Page: 9, Tail: 3}, w)
		if e != api.OK {
			t.Fatalf("Push of %d: %v", w, e)
		}
		room := n.W[:cap(n.W)]
		for i := range room {
			room[i] = 3
		}
		if !slices.Equal(whole, before) {
			t.Errorf("Push of %d: the answer shares memory with what was handed in", w)
		}
	}
}

// TestWhatIsHandedInStays goes through right and wrong inputs of both calls, with
// spare room behind the words.
func TestWhatIsHandedInStays(t *testing.T) {
	mems := []api.Mem{counted()}
	for _, c := range badMems() {
		mems = append(mems, c.m)
	}
	rings := append(badRings(), api.Ring{Page: 63, Head: 6, Tail: 7}, api.Ring{Page: 9}, api.Ring{Page: 9, Tail: 7}, api.Ring{Page: 64, Tail: 3})
	for _, m := range mems {
		given, whole := roomy(m)
		before := slices.Clone(whole)
		for _, r := range rings {
			Pop(given, r)
			for _, w := range []int{-1, 0, 65535, 65536} {
				Push(given, r, w)
			}
		}
		if !slices.Equal(whole, before) {
			t.Errorf("a memory of %d words, or the room behind it, was changed", len(m.W))
		}
	}
}
