package walk

import (
	"math"
	"slices"
	"testing"

	"drawbridge/api"
)

// Words of entries, written out by their flags, so that the tests do not lean on
// package entry: a table, a leaf with no right, one to read, one to read and write.
const (
	aTable  = 1
	noRight = 9
	toRead  = 11
	toWrite = 15
)

// Words that are no entry: write and not read, read and no leaf, a high bit.
var noEntries = []int{5, 13, 3, 7, 1025, 95 + 1024, 95 + 32768, 65535}

// Words that say nothing, whatever their other bits are.
var notValid = []int{0, 2, 14, 16 * 9, 1024, 65534}

var noPages = []int{-1, -8, -64, math.MinInt, 64, 65, 72, 512, math.MaxInt}

// marker fills spare room, so that a write behind the words is seen.
const marker = -77

// told is all that one walk answers.
type told struct {
	x     api.Entry
	fault int
	err   api.Errno
}

func walked(m api.Mem, root, page int, write bool) told {
	x, fault, err := Walk(m, root, page, write)
	return told{x, fault, err}
}

// faulty and wrong are what is told with no entry.
func faulty(fault int) told { return told{fault: fault} }

func wrong(e api.Errno) told { return told{err: e} }

// readable and writable are the leaves that a walk may come to.
func readable(page int) told {
	return told{x: api.Entry{Valid: true, Read: true, Leaf: true, Page: page}}
}

func writable(page int) told {
	return told{x: api.Entry{Valid: true, Read: true, Write: true, Leaf: true, Page: page}}
}

// at is the memory with these words, and noughts beside them.
func at(words map[int]int) api.Mem {
	m := api.Mem{W: make([]int, 512)}
	for k, w := range words {
		m.W[k] = w
	}
	return m
}

// tables begin at page 2; what stands at page 3 is the table of the pages 0 to 7.
func tables() api.Mem {
	return at(map[int]int{
		16: aTable + 16*3,
		17: toWrite + 16*8,
		18: toWrite + 16*9,
		19: 5,
		20: toRead + 16*40,
		21: noRight + 16*40,
		22: aTable + 16*63,
		23: noRight + 16*41,
		24: toWrite + 16*9,
		25: toRead + 16*8,
		26: aTable + 16*3,
		27: noRight + 16*7,
		28: 0,
		29: 65534,
		30: 95 + 1024,
		31: toWrite + 16*63,

		504: toRead,
		511: toWrite,
	})
}

func TestWalk(t *testing.T) {
	m := tables()
	for _, c := range []struct {
		name     string
		page     int
		toRead   told
		toChange told
	}{
		{"through two tables", 0, writable(9), writable(9)},
		{"to read alone", 1, readable(8), faulty(api.NoRight)},
		{"a table in the second table", 2, faulty(api.BadEntry), faulty(api.BadEntry)},
		{"a leaf with no right", 3, faulty(api.NoRight), faulty(api.NoRight)},
		{"nought in the second table", 4, faulty(api.NoPage), faulty(api.NoPage)},
		{"not valid in the second table", 5, faulty(api.NoPage), faulty(api.NoPage)},
		{"no entry in the second table", 6, faulty(api.BadEntry), faulty(api.BadEntry)},
		{"last of the second table, to the last page", 7, writable(63), writable(63)},
		{"first page of a great leaf", 8, writable(8), writable(8)},
		{"a page within a great leaf", 13, writable(13), writable(13)},
		{"last page of a great leaf", 15, writable(15), writable(15)},
		{"a great leaf at a bad place, its first page", 16, faulty(api.BadEntry), faulty(api.BadEntry)},
		{"a great leaf at a bad place, its last page", 23, faulty(api.BadEntry), faulty(api.BadEntry)},
		{"no entry in the first table", 24, faulty(api.BadEntry), faulty(api.BadEntry)},
		{"a great leaf to read alone", 33, readable(41), faulty(api.NoRight)},
		{"a great leaf with no right", 42, faulty(api.NoRight), faulty(api.NoRight)},
		{"first of a table at the last page", 48, readable(0), faulty(api.NoRight)},
		{"last word of memory", 55, writable(0), writable(0)},
		{"a great leaf at a bad place, with no right", 56, faulty(api.BadEntry), faulty(api.BadEntry)},
	} {
		if got := walked(m, 2, c.page, false); got != c.toRead {
			t.Errorf("%s (%d), to read: %+v, want %+v", c.name, c.page, got, c.toRead)
		}
		if got := walked(m, 2, c.page, true); got != c.toChange {
			t.Errorf("%s (%d), to write: %+v, want %+v", c.name, c.page, got, c.toChange)
		}
	}
}

func TestWalkOfNoughts(t *testing.T) {
	m := at(nil)
	for page := range 64 {
		if got := walked(m, page, 63-page, false); got != faulty(api.NoPage) {
			t.Errorf("page %d of noughts: %+v, want NoPage", 63-page, got)
		}
	}
}

// TestEveryRootAndPage: each pair of words stands at a place of its own, worked
// out here by the chapter's own numbers; all other words lead to another page.
func TestEveryRootAndPage(t *testing.T) {
	for root := range 64 {
		second := (root + 29) % 64
		for page := range 64 {
			m := api.Mem{W: slices.Repeat([]int{toRead + 16*56}, 512)}
			m.W[8*root+page/8] = aTable + 16*second
			m.W[8*second+page%8] = toWrite + 16*page
			if got := walked(m, root, page, true); got != writable(page) {
				t.Fatalf("root %d, page %d, through two tables: %+v, want page %d", root, page, got, page)
			}
			m.W[8*root+page/8] = toWrite + 16*48
			if got := walked(m, root, page, true); got != writable(48+page%8) {
				t.Fatalf("root %d, page %d, by a great leaf: %+v, want page %d", root, page, got, 48+page%8)
			}
		}
	}
}

func TestEdgesOfRootAndPage(t *testing.T) {
	m := api.Mem{W: slices.Repeat([]int{toWrite + 16*8}, 512)}
	for _, root := range []int{-1, 0, 63, 64} {
		for _, page := range []int{-1, 0, 63, 64} {
			want := wrong(api.ErrWho)
			if (root == 0 || root == 63) && (page == 0 || page == 63) {
				want = writable(8 + page%8)
			}
			if got := walked(m, root, page, true); got != want {
				t.Errorf("root %d, page %d: %+v, want %+v", root, page, got, want)
			}
		}
	}
}

func TestNoRootAndNoPage(t *testing.T) {
	m := api.Mem{W: slices.Repeat([]int{toWrite + 16*8}, 512)}
	for _, p := range noPages {
		for _, write := range []bool{false, true} {
			for _, pair := range [][2]int{{p, 0}, {p, 63}, {0, p}, {63, p}, {p, p}} {
				if got := walked(m, pair[0], pair[1], write); got != wrong(api.ErrWho) {
					t.Errorf("root %d, page %d: %+v, want ErrWho", pair[0], pair[1], got)
				}
			}
		}
	}
}

// TestErrorOfMemoryIsFirst: what is wrong with memory is told ahead of a root or
// page that isn't, and wherever the wrong word is.
func TestErrorOfMemoryIsFirst(t *testing.T) {
	bad := func(k, w int) api.Mem {
		m := tables()
		m.W[k] = w
		return m
	}
	for _, c := range []struct {
		name string
		m    api.Mem
		want api.Errno
	}{
		{"no list", api.Mem{}, api.ErrForm},
		{"an empty list", api.Mem{W: []int{}}, api.ErrForm},
		{"one word too few", api.Mem{W: make([]int, 511)}, api.ErrForm},
		{"one word too many", api.Mem{W: make([]int, 513)}, api.ErrForm},
		{"too few, and a bad word", api.Mem{W: []int{-1}}, api.ErrForm},
		{"the first entry -1", bad(16, -1), api.ErrRange},
		{"the second entry 65536", bad(24, 65536), api.ErrRange},
		{"a word that isn't asked, -1", bad(0, -1), api.ErrRange},
		{"the last word 65536", bad(511, 65536), api.ErrRange},
	} {
		for _, pair := range [][2]int{{2, 0}, {2, 4}, {2, 16}, {-1, 0}, {64, 0}, {2, -1}, {2, 64}, {-1, 64}} {
			if got := walked(c.m, pair[0], pair[1], true); got != wrong(c.want) {
				t.Errorf("%s, root %d, page %d: %+v, want %v alone", c.name, pair[0], pair[1], got, c.want)
			}
		}
	}
}

func TestFaultsOfTheFirstWord(t *testing.T) {
	for _, write := range []bool{false, true} {
		for _, w := range noEntries {
			if got := walked(at(map[int]int{17: w}), 2, 9, write); got != faulty(api.BadEntry) {
				t.Errorf("the first word %d: %+v, want BadEntry", w, got)
			}
		}
		for _, w := range notValid {
			if got := walked(at(map[int]int{17: w}), 2, 9, write); got != faulty(api.NoPage) {
				t.Errorf("the first word %d: %+v, want NoPage", w, got)
			}
		}
	}
}

func TestFaultsOfTheSecondWord(t *testing.T) {
	for _, write := range []bool{false, true} {
		for _, w := range noEntries {
			if got := walked(at(map[int]int{17: aTable + 16*3, 25: w}), 2, 9, write); got != faulty(api.BadEntry) {
				t.Errorf("the second word %d: %+v, want BadEntry", w, got)
			}
		}
		for _, w := range notValid {
			if got := walked(at(map[int]int{17: aTable + 16*3, 25: w}), 2, 9, write); got != faulty(api.NoPage) {
				t.Errorf("the second word %d: %+v, want NoPage", w, got)
			}
		}
	}
}

// TestEveryGreatLeaf: each page that a first leaf may name, each page within it,
// each right; where it is at a bad place, that is told whatever may be done there.
func TestEveryGreatLeaf(t *testing.T) {
	for p := range 64 {
		for within := range 8 {
			for _, c := range []struct {
				flags    int
				toRead   told
				toChange told
			}{
				{noRight, faulty(api.NoRight), faulty(api.NoRight)},
				{toRead, readable(p + within), faulty(api.NoRight)},
				{toWrite, writable(p + within), writable(p + within)},
			} {
				if p%8 != 0 {
					c.toRead, c.toChange = faulty(api.BadEntry), faulty(api.BadEntry)
				}
				m := at(map[int]int{21: c.flags + 16*p})
				if got := walked(m, 2, 40+within, false); got != c.toRead {
					t.Errorf("flags %d, page %d, within %d, to read: %+v, want %+v", c.flags, p, within, got, c.toRead)
				}
				if got := walked(m, 2, 40+within, true); got != c.toChange {
					t.Errorf("flags %d, page %d, within %d, to write: %+v, want %+v", c.flags, p, within, got, c.toChange)
				}
			}
		}
	}
}

// ofLeaf is what a leaf with these flags tells: the four lowest bits of a word.
func ofLeaf(flags, page int, write bool) told {
	switch {
	case flags == toWrite:
		return writable(page)
	case flags == toRead && !write:
		return readable(page)
	}
	return faulty(api.NoRight)
}

func isEntryWord(w int) bool {
	flags := w % 16
	return w < 1024 && (flags == aTable || flags == noRight || flags == toRead || flags == toWrite)
}

// TestEveryFirstWord: whichever table a first word leads to, the second word there
// says the same.
func TestEveryFirstWord(t *testing.T) {
	m := api.Mem{W: slices.Repeat([]int{toRead + 16*33}, 512)}
	for w := 0; w <= 65535; w++ {
		m.W[8*5+2] = w
		for _, write := range []bool{false, true} {
			var want told
			switch {
			case w%2 == 0:
				want = faulty(api.NoPage)
			case !isEntryWord(w):
				want = faulty(api.BadEntry)
			case w%16 == aTable:
				want = ofLeaf(toRead, 33, write)
			case w/16%8 != 0:
				want = faulty(api.BadEntry)
			default:
				want = ofLeaf(w%16, w/16+6, write)
			}
			if got := walked(m, 5, 22, write); got != want {
				t.Fatalf("the first word %d, write %v: %+v, want %+v", w, write, got, want)
			}
		}
	}
}

func TestEverySecondWord(t *testing.T) {
	m := at(map[int]int{8*5 + 2: aTable + 16*63})
	for w := 0; w <= 65535; w++ {
		m.W[8*63+6] = w
		for _, write := range []bool{false, true} {
			var want told
			switch {
			case w%2 == 0:
				want = faulty(api.NoPage)
			case !isEntryWord(w), w%16 == aTable:
				want = faulty(api.BadEntry)
			default:
				want = ofLeaf(w%16, w/16, write)
			}
			if got := walked(m, 5, 22, write); got != want {
				t.Fatalf("the second word %d, write %v: %+v, want %+v", w, write, got, want)
			}
		}
	}
}

// TestTableOfItself: a table that leads back to itself is gone through twice, and
// then it ends.
func TestTableOfItself(t *testing.T) {
	m := at(map[int]int{16: aTable + 16*2, 17: toWrite + 16*24})
	for page, want := range map[int]told{
		0: faulty(api.BadEntry),
		1: writable(24),
		2: faulty(api.NoPage),
		9: writable(25),
	} {
		if got := walked(m, 2, page, true); got != want {
			t.Errorf("page %d by a table of itself: %+v, want %+v", page, got, want)
		}
	}
}

// others are the words that are laid where nothing hangs on them.
var others = []int{0, 5, 65535, aTable + 16*3, noRight + 16*8, toWrite + 16*48, toRead + 16*17}

// TestNothingHangsOnOtherWords changes each word of memory but those that the
// walk goes through, one after the other, and then all of them at once.
func TestNothingHangsOnOtherWords(t *testing.T) {
	for _, c := range []struct {
		name string
		page int
		hang []int
	}{
		{"through two tables", 0, []int{16, 24}},
		{"to read alone", 1, []int{16, 25}},
		{"a table in the second table", 2, []int{16, 26}},
		{"a leaf with no right", 3, []int{16, 27}},
		{"nought in the second table", 4, []int{16, 28}},
		{"no entry in the second table", 6, []int{16, 30}},
		{"a page within a great leaf", 13, []int{17}},
		{"a great leaf at a bad place", 18, []int{18}},
		{"no entry in the first table", 24, []int{19}},
		{"a great leaf to read alone", 33, []int{20}},
		{"a great leaf with no right", 42, []int{21}},
		{"last word of memory", 55, []int{22, 511}},
	} {
		for _, write := range []bool{false, true} {
			want := walked(tables(), 2, c.page, write)
			for _, w := range others {
				all := tables()
				for k := range all.W {
					if slices.Contains(c.hang, k) {
						continue
					}
					one := tables()
					one.W[k], all.W[k] = w, w
					if got := walked(one, 2, c.page, write); got != want {
						t.Errorf("%s, with %d as word %d: %+v, want %+v", c.name, w, k, got, want)
					}
				}
				if got := walked(all, 2, c.page, write); got != want {
					t.Errorf("%s, with %d as each other word: %+v, want %+v", c.name, w, got, want)
				}
			}
		}
	}
}

// TestSomethingHangsOnBothWords: those two that are left alone above do count.
func TestSomethingHangsOnBothWords(t *testing.T) {
	for _, k := range []int{16, 24} {
		m := tables()
		m.W[k] = 0
		if got := walked(m, 2, 0, false); got != faulty(api.NoPage) {
			t.Errorf("with nought as word %d: %+v, want NoPage", k, got)
		}
	}
}

func TestMemoryStaysAsItWas(t *testing.T) {
	words := tables().W
	whole := append(slices.Clone(words), slices.Repeat([]int{marker}, 40)...)
	m := api.Mem{W: whole[:512]}
	before := slices.Clone(whole)
	for page := -1; page <= 64; page++ {
		first := walked(m, 2, page, true)
		if again := walked(m, 2, page, true); again != first {
			t.Errorf("page %d, asked again: %+v, then %+v", page, first, again)
		}
		if plain := walked(api.Mem{W: words}, 2, page, true); plain != first {
			t.Errorf("page %d: %+v with spare room, %+v without", page, first, plain)
		}
	}
	if !slices.Equal(whole, before) {
		t.Errorf("memory or the room behind it was changed")
	}
}
