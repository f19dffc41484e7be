package mem

import (
	"math"
	"slices"
	"testing"

	"drawbridge/api"
)

// marker fills spare room, so that a write behind the words is seen.
const marker = -77

// counted is memory whose words all differ.
func counted() api.Mem {
	w := make([]int, api.Words)
	for i := range w {
		w[i] = 1000 + i
	}
	return api.Mem{W: w}
}

// with is counted, with one word of any value at a place.
func with(at, w int) api.Mem {
	m := counted()
	m.W[at] = w
	return m
}

// long is a memory of n words, all of them w.
func long(n, w int) api.Mem { return api.Mem{W: slices.Repeat([]int{w}, n)} }

// roomy is m with spare room behind its words, and all of that room.
func roomy(m api.Mem) (api.Mem, []int) {
	whole := append(slices.Clone(m.W), slices.Repeat([]int{marker}, 40)...)
	return api.Mem{W: whole[:len(m.W)]}, whole
}

func TestNewIsNoughts(t *testing.T) {
	m := New()
	if !slices.Equal(m.W, make([]int, 512)) {
		t.Fatalf("New: %v, want 512 noughts", m.W)
	}
	if e := Check(m); e != api.OK {
		t.Errorf("Check of New: %v", e)
	}
}

func TestNewIsNewEachTime(t *testing.T) {
	a := New()
	for i := range a.W {
		a.W[i] = 5
	}
	if b := New(); !slices.Equal(b.W, make([]int, 512)) {
		t.Errorf("a second New has what was written into the first one: %v", b.W)
	}
}

func TestCheck(t *testing.T) {
	for _, c := range []struct {
		name string
		m    api.Mem
		want api.Errno
	}{
		{"ordinary", counted(), api.OK},
		{"no list", api.Mem{}, api.ErrForm},
		{"empty list", api.Mem{W: []int{}}, api.ErrForm},
		{"one word", long(1, 0), api.ErrForm},
		{"one too few", long(511, 0), api.ErrForm},
		{"one too many", long(513, 0), api.ErrForm},
		{"twice as many", long(1024, 0), api.ErrForm},
		{"all least", long(512, 0), api.OK},
		{"all greatest", long(512, 65535), api.OK},
		{"first -1", with(0, -1), api.ErrRange},
		{"middle -1", with(256, -1), api.ErrRange},
		{"last -1", with(511, -1), api.ErrRange},
		{"first 65535", with(0, 65535), api.OK},
		{"last 65535", with(511, 65535), api.OK},
		{"first 65536", with(0, 65536), api.ErrRange},
		{"middle 65536", with(256, 65536), api.ErrRange},
		{"last 65536", with(511, 65536), api.ErrRange},
		{"least int", with(7, math.MinInt), api.ErrRange},
		{"greatest int", with(7, math.MaxInt), api.ErrRange},
		{"too few, and -1", long(511, -1), api.ErrForm},
		{"too many, and 65536", long(513, 65536), api.ErrForm},
	} {
		if got := Check(c.m); got != c.want {
			t.Errorf("Check of %s: %v, want %v", c.name, got, c.want)
		}
	}
}

func TestCheckLooksAtWordsNotAtRoom(t *testing.T) {
	m, _ := roomy(counted())
	if e := Check(m); e != api.OK {
		t.Errorf("Check of 512 words with bad ones in the room behind: %v", e)
	}
	short := api.Mem{W: counted().W[:511]}
	if e := Check(short); e != api.ErrForm {
		t.Errorf("Check of 511 words with room for 512: %v", e)
	}
}

func TestSame(t *testing.T) {
	for _, c := range []struct {
		name string
		a, b api.Mem
		want bool
	}{
		{"noughts", New(), New(), true},
		{"ordinary", counted(), counted(), true},
		{"ordinary and noughts", counted(), New(), false},
		{"first differs", counted(), with(0, 3), false},
		{"last differs", counted(), with(511, 3), false},
		{"neither a list", api.Mem{}, api.Mem{}, true},
		{"no list and an empty one", api.Mem{}, api.Mem{W: []int{}}, true},
		{"no list and noughts", api.Mem{}, New(), false},
		{"one is longer by a nought", long(512, 0), long(513, 0), false},
		{"short and alike", long(3, 9), long(3, 9), true},
		{"long and alike", long(600, 9), long(600, 9), true},
		{"long, last differs", long(600, 9), api.Mem{W: append(long(599, 9).W, 8)}, false},
		{"bad words, alike", with(4, -1), with(4, -1), true},
		{"bad words, not alike", with(4, -1), with(4, 65536), false},
		{"alike in their low bits alone", with(4, 0), with(4, 65536), false},
	} {
		if got := Same(c.a, c.b); got != c.want {
			t.Errorf("Same, %s: %v, want %v", c.name, got, c.want)
		}
		if got := Same(c.b, c.a); got != c.want {
			t.Errorf("Same, %s, the other way round: %v, want %v", c.name, got, c.want)
		}
	}
}

func TestSameLeavesRoomAside(t *testing.T) {
	m, _ := roomy(counted())
	if !Same(m, counted()) || !Same(m, m) {
		t.Error("Same looks at the room behind the words")
	}
}

func TestReadEveryPlace(t *testing.T) {
	m := counted()
	for at := range api.Words {
		if w, e := Read(m, at); w != 1000+at || e != api.OK {
			t.Errorf("Read at %d: %d, %v, want %d, OK", at, w, e, 1000+at)
		}
	}
}

func TestReadEdges(t *testing.T) {
	for _, c := range []struct {
		name string
		m    api.Mem
		at   int
		w    int
		e    api.Errno
	}{
		{"a nought", New(), 0, 0, api.OK},
		{"the greatest word, first place", with(0, 65535), 0, 65535, api.OK},
		{"the greatest word, last place", with(511, 65535), 511, 65535, api.OK},
		{"ahead of the first", counted(), -1, 0, api.ErrWho},
		{"behind the last", counted(), 512, 0, api.ErrWho},
		{"least int", counted(), math.MinInt, 0, api.ErrWho},
		{"greatest int", counted(), math.MaxInt, 0, api.ErrWho},
		{"no list", api.Mem{}, 0, 0, api.ErrForm},
		{"too few", long(511, 4), 0, 0, api.ErrForm},
		{"too many, and a place in them", long(513, 4), 512, 0, api.ErrForm},
		{"too few, and no such place", long(511, 4), -1, 0, api.ErrForm},
		{"too few, bad words, and no such place", long(511, -1), 511, 0, api.ErrForm},
		{"a bad word there", with(9, -1), 9, 0, api.ErrRange},
		{"a bad word elsewhere", with(511, 65536), 9, 0, api.ErrRange},
		{"a bad word, and no such place", with(9, 65536), 512, 0, api.ErrRange},
	} {
		if w, e := Read(c.m, c.at); w != c.w || e != c.e {
			t.Errorf("Read, %s: %d, %v, want %d, %v", c.name, w, e, c.w, c.e)
		}
	}
}

func TestReadDoesNotReachIntoRoom(t *testing.T) {
	m, _ := roomy(counted())
	if w, e := Read(m, 512); w != 0 || e != api.ErrWho {
		t.Errorf("Read at 512 with room behind: %d, %v, want 0, ErrWho", w, e)
	}
}

func TestWriteEveryPlace(t *testing.T) {
	m := counted()
	for at := range api.Words {
		got, e := Write(m, at, 40000)
		if want := with(at, 40000); e != api.OK || !slices.Equal(got.W, want.W) {
			t.Errorf("Write at %d: %v, %v, want that word changed alone", at, got.W, e)
		}
	}
	if !slices.Equal(m.W, counted().W) {
		t.Errorf("Write changed what was handed in: %v", m.W)
	}
}

func TestWriteEveryEdgeWord(t *testing.T) {
	for _, at := range []int{0, 1, 7, 8, 255, 256, 510, 511} {
		for _, w := range []int{0, 1, 255, 256, 32767, 32768, 65534, 65535} {
			m, e := Write(counted(), at, w)
			if e != api.OK {
				t.Fatalf("Write %d at %d: %v", w, at, e)
			}
			if got, e := Read(m, at); got != w || e != api.OK {
				t.Errorf("Read of what was written, %d at %d: %d, %v", w, at, got, e)
			}
			if e := Check(m); e != api.OK {
				t.Errorf("Check of what was written, %d at %d: %v", w, at, e)
			}
		}
	}
}

func TestWriteErrors(t *testing.T) {
	for _, c := range []struct {
		name  string
		m     api.Mem
		at, w int
		want  api.Errno
	}{
		{"ahead of the first", counted(), -1, 5, api.ErrWho},
		{"behind the last", counted(), 512, 5, api.ErrWho},
		{"least int place", counted(), math.MinInt, 5, api.ErrWho},
		{"greatest int place", counted(), math.MaxInt, 5, api.ErrWho},
		{"word -1", counted(), 0, -1, api.ErrRange},
		{"word 65536", counted(), 511, 65536, api.ErrRange},
		{"least int word", counted(), 5, math.MinInt, api.ErrRange},
		{"greatest int word", counted(), 5, math.MaxInt, api.ErrRange},
		{"no such place, and a bad word", counted(), -1, -1, api.ErrWho},
		{"no such place behind, and a bad word", counted(), 512, 65536, api.ErrWho},
		{"no list", api.Mem{}, 0, 5, api.ErrForm},
		{"too few", long(511, 4), 0, 5, api.ErrForm},
		{"too many, and a place in them", long(513, 4), 512, 5, api.ErrForm},
		{"too few, no such place, a bad word", long(511, 4), 511, -1, api.ErrForm},
		{"too few and bad words", long(511, -1), 0, 5, api.ErrForm},
		{"a bad word of memory", with(9, -1), 3, 5, api.ErrRange},
		{"a bad word of memory, to be written over", with(9, 65536), 9, 5, api.ErrRange},
		{"a bad word of memory, and no such place", with(511, 65536), 512, 5, api.ErrRange},
	} {
		m, e := Write(c.m, c.at, c.w)
		if e != c.want {
			t.Errorf("Write, %s: %v, want %v", c.name, e, c.want)
		}
		if len(m.W) != 0 {
			t.Errorf("Write, %s: an error, and a memory of %d words", c.name, len(m.W))
		}
	}
}

// TestWriteAnswersNewMemory also writes the word that is there already: that
// changes nothing, but the answer must be a list of its own all the same.
func TestWriteAnswersNewMemory(t *testing.T) {
	for _, w := range []int{1009, 5} {
		m, whole := roomy(counted())
		before := slices.Clone(whole)
		got, e := Write(m, 9, w)
		if e != api.OK {
			t.Fatalf("Write of %d: %v", w, e)
		}
		room := got.W[:cap(got.W)]
		for i := range room {
			room[i] = 3
		}
		if !slices.Equal(whole, before) {
			t.Errorf("Write of %d: the answer shares memory with what was handed in", w)
		}
	}
}

func TestWriteDoesNotKeepWhatIsHandedIn(t *testing.T) {
	m := counted()
	got, _ := Write(m, 9, 5)
	for i := range m.W {
		m.W[i] = 3
	}
	if !slices.Equal(got.W, with(9, 5).W) {
		t.Error("what was answered changed with what had been handed in")
	}
}

// TestWhatIsHandedInStays goes through right and wrong inputs of every call,
// with spare room behind the words.
func TestWhatIsHandedInStays(t *testing.T) {
	for _, m := range []api.Mem{{}, long(511, 4), counted(), with(9, -1), with(511, 65536), long(513, 4)} {
		given, whole := roomy(m)
		before := slices.Clone(whole)
		Check(given)
		Same(given, counted())
		Same(counted(), given)
		for _, at := range []int{-1, 0, 9, 511, 512} {
			Read(given, at)
			for _, w := range []int{-1, 0, 65535, 65536} {
				Write(given, at, w)
			}
		}
		if !slices.Equal(whole, before) {
			t.Errorf("a memory of %d words, or the room behind it, was changed", len(m.W))
		}
	}
}
