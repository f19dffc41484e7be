package entry

import (
	"math"
	"testing"

	"drawbridge/api"
)

// Words of one bit, written out, so that the tests do not lean on the
// program's own arithmetic.
var oneBit = [16]int{1, 2, 4, 8, 16, 32, 64, 128, 256, 512, 1024, 2048, 4096, 8192, 16384, 32768}

var noWords = []int{-1, -2, -15, -16, -65535, -65536, math.MinInt, 65536, 65537, 65536 + 95, 131071, 131072, math.MaxInt}

var noPages = []int{-1, -64, math.MinInt, 64, 65, 128, 1024, math.MaxInt}

// leaf is an entry with each right that an entry may have.
func leaf(page int) api.Entry {
	return api.Entry{Valid: true, Read: true, Write: true, Leaf: true, Page: page}
}

// entries are all of them, right or wrong, with this page.
func entries(page int) []api.Entry {
	var l []api.Entry
	for _, valid := range []bool{false, true} {
		for _, read := range []bool{false, true} {
			for _, write := range []bool{false, true} {
				for _, isLeaf := range []bool{false, true} {
					l = append(l, api.Entry{Valid: valid, Read: read, Write: write, Leaf: isLeaf, Page: page})
				}
			}
		}
	}
	return l
}

// contexts are all of them, right or wrong, with this root.
func contexts(root int) []api.Context {
	var l []api.Context
	for _, valid := range []bool{false, true} {
		for _, pass := range []bool{false, true} {
			l = append(l, api.Context{Valid: valid, Pass: pass, Root: root})
		}
	}
	return l
}

func TestRead(t *testing.T) {
	for _, c := range []struct {
		name string
		w    int
		e    api.Entry
		ok   bool
	}{
		{"a leaf to read and write", 15 + 16*5, leaf(5), true},
		{"a leaf to read", 11 + 16*5, api.Entry{Valid: true, Read: true, Leaf: true, Page: 5}, true},
		{"a leaf to do nothing with", 9 + 16*5, api.Entry{Valid: true, Leaf: true, Page: 5}, true},
		{"a table", 1 + 16*5, api.Entry{Valid: true, Page: 5}, true},
		{"least page", 15, leaf(0), true},
		{"greatest page", 15 + 16*63, leaf(63), true},
		{"a table at the greatest page", 1009, api.Entry{Valid: true, Page: 63}, true},
		{"a page of its lowest bit", 15 + 16, leaf(1), true},
		{"a page of its highest bit", 15 + 512, leaf(32), true},
		{"nought", 0, api.Entry{}, true},
		{"not valid, all else set", 65534, api.Entry{}, true},
		{"not valid, a page", 16 * 5, api.Entry{}, true},
		{"not valid, all flags", 14, api.Entry{}, true},
		{"not valid, what may not be: write alone", 4, api.Entry{}, true},
		{"not valid, what may not be: read and no leaf", 2, api.Entry{}, true},
		{"not valid, what may not be: a high bit", 1024, api.Entry{}, true},
		{"write and not read, no leaf", 5, api.Entry{}, false},
		{"write and not read, a leaf", 13, api.Entry{}, false},
		{"read and no leaf", 3, api.Entry{}, false},
		{"read, write and no leaf", 7, api.Entry{}, false},
		{"a leaf with bit 10", 95 + 1024, api.Entry{}, false},
		{"a leaf with bit 15", 95 + 32768, api.Entry{}, false},
		{"a table with bit 10", 1025, api.Entry{}, false},
		{"all bits", 65535, api.Entry{}, false},
	} {
		if e, ok := Read(c.w); e != c.e || ok != c.ok {
			t.Errorf("Read of %s (%d): %+v, %v, want %+v, %v", c.name, c.w, e, ok, c.e, c.ok)
		}
	}
}

func TestReadNoWord(t *testing.T) {
	for _, w := range noWords {
		if e, ok := Read(w); e != (api.Entry{}) || ok {
			t.Errorf("Read of %d: %+v, %v, want none, false", w, e, ok)
		}
	}
}

func TestReadEachBitAlone(t *testing.T) {
	for k, w := range oneBit {
		want := api.Entry{Valid: k == 0}
		if e, ok := Read(w); e != want || !ok {
			t.Errorf("Read of bit %d alone: %+v, %v, want %+v, true", k, e, ok, want)
		}
	}
}

func TestReadEachBitBesideValid(t *testing.T) {
	want := map[int]api.Entry{
		0: {Valid: true},
		3: {Valid: true, Leaf: true},
		4: {Valid: true, Page: 1},
		5: {Valid: true, Page: 2},
		6: {Valid: true, Page: 4},
		7: {Valid: true, Page: 8},
		8: {Valid: true, Page: 16},
		9: {Valid: true, Page: 32},
	}
	for k, w := range oneBit {
		x, may := want[k]
		if e, ok := Read(1 | w); e != x || ok != may {
			t.Errorf("Read of bits 0 and %d: %+v, %v, want %+v, %v", k, e, ok, x, may)
		}
	}
}

// TestReadEachHighBitBesideALeaf: no one of the bits behind the page may be
// left out of what is looked at.
func TestReadEachHighBitBesideALeaf(t *testing.T) {
	for k := 10; k < 16; k++ {
		if e, ok := Read(95 + oneBit[k]); e != (api.Entry{}) || ok {
			t.Errorf("Read of a leaf with bit %d: %+v, %v, want none, false", k, e, ok)
		}
	}
}

// TestReadEveryWord holds each word against the chapter's sentences, bit by bit.
func TestReadEveryWord(t *testing.T) {
	valid := 0
	for w := 0; w <= 65535; w++ {
		bit := func(k int) bool { return w/oneBit[k]%2 == 1 }
		var want api.Entry
		ok := true
		if bit(0) {
			ok = w < 1024 && !(bit(2) && !bit(1)) && !(bit(1) && !bit(3))
		}
		if bit(0) && ok {
			want = api.Entry{Valid: true, Read: bit(1), Write: bit(2), Leaf: bit(3), Page: w / 16}
			valid++
		}
		if e, got := Read(w); e != want || got != ok {
			t.Fatalf("Read of %d: %+v, %v, want %+v, %v", w, e, got, want, ok)
		}
	}
	if valid != 4*64 {
		t.Errorf("%d words are valid entries, want 4 of each page", valid)
	}
}

func TestPut(t *testing.T) {
	for _, c := range []struct {
		name string
		e    api.Entry
		w    int
		err  api.Errno
	}{
		{"a leaf to read and write", leaf(5), 95, api.OK},
		{"a leaf to read", api.Entry{Valid: true, Read: true, Leaf: true, Page: 5}, 91, api.OK},
		{"a leaf to do nothing with", api.Entry{Valid: true, Leaf: true, Page: 5}, 89, api.OK},
		{"a table", api.Entry{Valid: true, Page: 5}, 81, api.OK},
		{"least page", leaf(0), 15, api.OK},
		{"greatest page", leaf(63), 1023, api.OK},
		{"a table at the greatest page", api.Entry{Valid: true, Page: 63}, 1009, api.OK},
		{"nothing", api.Entry{}, 0, api.OK},
		{"page -1", leaf(-1), 0, api.ErrRange},
		{"page 64", leaf(64), 0, api.ErrRange},
		{"not valid, read", api.Entry{Read: true}, 0, api.ErrForm},
		{"not valid, write", api.Entry{Write: true}, 0, api.ErrForm},
		{"not valid, leaf", api.Entry{Leaf: true}, 0, api.ErrForm},
		{"not valid, page 1", api.Entry{Page: 1}, 0, api.ErrForm},
		{"not valid, page 63", api.Entry{Page: 63}, 0, api.ErrForm},
		{"not valid, else a leaf", api.Entry{Read: true, Write: true, Leaf: true, Page: 5}, 0, api.ErrForm},
		{"write and not read, a leaf", api.Entry{Valid: true, Write: true, Leaf: true}, 0, api.ErrForm},
		{"write and not read, no leaf", api.Entry{Valid: true, Write: true}, 0, api.ErrForm},
		{"read and no leaf", api.Entry{Valid: true, Read: true}, 0, api.ErrForm},
		{"read, write and no leaf", api.Entry{Valid: true, Read: true, Write: true}, 0, api.ErrForm},
		{"page -1, and not valid", api.Entry{Page: -1}, 0, api.ErrRange},
		{"page 64, and not valid", api.Entry{Page: 64}, 0, api.ErrRange},
		{"page 64, and write alone", api.Entry{Valid: true, Write: true, Page: 64}, 0, api.ErrRange},
		{"page -1, and read and no leaf", api.Entry{Valid: true, Read: true, Page: -1}, 0, api.ErrRange},
	} {
		if w, err := Put(c.e); w != c.w || err != c.err {
			t.Errorf("Put of %s: %d, %v, want %d, %v", c.name, w, err, c.w, c.err)
		}
	}
}

// TestPutNoPage: whatever else is wrong, that there is no such page is told first.
func TestPutNoPage(t *testing.T) {
	for _, page := range noPages {
		for _, e := range entries(page) {
			if w, err := Put(e); w != 0 || err != api.ErrRange {
				t.Errorf("Put of %+v: %d, %v, want 0, ErrRange", e, w, err)
			}
		}
	}
}

// TestPutEveryEntry holds each entry with a page against the words of the right
// forms, written out: table, leaf, leaf to read, leaf to read and write.
func TestPutEveryEntry(t *testing.T) {
	flags := map[api.Entry]int{
		{Valid: true}:                                      1,
		{Valid: true, Leaf: true}:                          9,
		{Valid: true, Read: true, Leaf: true}:              11,
		{Valid: true, Read: true, Write: true, Leaf: true}: 15,
	}
	for page := range 64 {
		for _, e := range entries(page) {
			bare := e
			bare.Page = 0
			low, right := flags[bare]
			want, err := low+16*page, api.OK
			if e == (api.Entry{}) {
				want = 0
			} else if !right {
				want, err = 0, api.ErrForm
			}
			if w, got := Put(e); w != want || got != err {
				t.Errorf("Put of %+v: %d, %v, want %d, %v", e, w, got, want, err)
			}
		}
	}
}

func TestReadContext(t *testing.T) {
	for _, c := range []struct {
		name string
		w    int
		c    api.Context
		ok   bool
	}{
		{"a root", 1 + 16*7, api.Context{Valid: true, Root: 7}, true},
		{"least root", 1, api.Context{Valid: true}, true},
		{"greatest root", 1 + 16*63, api.Context{Valid: true, Root: 63}, true},
		{"pass", 3, api.Context{Valid: true, Pass: true}, true},
		{"nought", 0, api.Context{}, true},
		{"not valid, all else set", 65534, api.Context{}, true},
		{"not valid, a root", 16 * 7, api.Context{}, true},
		{"not valid, what may not be: pass with a root", 2 + 16, api.Context{}, true},
		{"not valid, what may not be: bits 2 and 3", 12, api.Context{}, true},
		{"not valid, what may not be: a high bit", 32768, api.Context{}, true},
		{"pass with root 1", 3 + 16, api.Context{}, false},
		{"pass with root 32", 3 + 512, api.Context{}, false},
		{"pass with root 63", 3 + 16*63, api.Context{}, false},
		{"bit 2", 5, api.Context{}, false},
		{"bit 3", 9, api.Context{}, false},
		{"pass and bit 2", 7, api.Context{}, false},
		{"pass and bit 3", 11, api.Context{}, false},
		{"a leaf that may be an entry", 95, api.Context{}, false},
		{"bit 10", 1025, api.Context{}, false},
		{"pass and bit 15", 32771, api.Context{}, false},
		{"all bits", 65535, api.Context{}, false},
	} {
		if x, ok := ReadContext(c.w); x != c.c || ok != c.ok {
			t.Errorf("ReadContext of %s (%d): %+v, %v, want %+v, %v", c.name, c.w, x, ok, c.c, c.ok)
		}
	}
}

func TestReadContextNoWord(t *testing.T) {
	for _, w := range noWords {
		if c, ok := ReadContext(w); c != (api.Context{}) || ok {
			t.Errorf("ReadContext of %d: %+v, %v, want none, false", w, c, ok)
		}
	}
}

func TestReadContextEachBitAlone(t *testing.T) {
	for k, w := range oneBit {
		want := api.Context{Valid: k == 0}
		if c, ok := ReadContext(w); c != want || !ok {
			t.Errorf("ReadContext of bit %d alone: %+v, %v, want %+v, true", k, c, ok, want)
		}
	}
}

func TestReadContextEachBitBesideValid(t *testing.T) {
	want := map[int]api.Context{
		0: {Valid: true},
		1: {Valid: true, Pass: true},
		4: {Valid: true, Root: 1},
		5: {Valid: true, Root: 2},
		6: {Valid: true, Root: 4},
		7: {Valid: true, Root: 8},
		8: {Valid: true, Root: 16},
		9: {Valid: true, Root: 32},
	}
	for k, w := range oneBit {
		x, may := want[k]
		if c, ok := ReadContext(1 | w); c != x || ok != may {
			t.Errorf("ReadContext of bits 0 and %d: %+v, %v, want %+v, %v", k, c, ok, x, may)
		}
	}
}

// TestReadContextEveryWord holds each word against the chapter's sentences, bit by bit.
func TestReadContextEveryWord(t *testing.T) {
	valid := 0
	for w := 0; w <= 65535; w++ {
		bit := func(k int) bool { return w/oneBit[k]%2 == 1 }
		var want api.Context
		ok := true
		if bit(0) {
			ok = w < 1024 && !bit(2) && !bit(3) && !(bit(1) && w/16 != 0)
		}
		if bit(0) && ok {
			want = api.Context{Valid: true, Pass: bit(1), Root: w / 16}
			valid++
		}
		if c, got := ReadContext(w); c != want || got != ok {
			t.Fatalf("ReadContext of %d: %+v, %v, want %+v, %v", w, c, got, want, ok)
		}
	}
	if valid != 64+1 {
		t.Errorf("%d words are valid contexts, want one of each root, and pass", valid)
	}
}

func TestPutContext(t *testing.T) {
	for _, c := range []struct {
		name string
		c    api.Context
		w    int
		err  api.Errno
	}{
		{"a root", api.Context{Valid: true, Root: 7}, 113, api.OK},
		{"least root", api.Context{Valid: true}, 1, api.OK},
		{"greatest root", api.Context{Valid: true, Root: 63}, 1009, api.OK},
		{"pass", api.Context{Valid: true, Pass: true}, 3, api.OK},
		{"nothing", api.Context{}, 0, api.OK},
		{"root -1", api.Context{Valid: true, Root: -1}, 0, api.ErrRange},
		{"root 64", api.Context{Valid: true, Root: 64}, 0, api.ErrRange},
		{"not valid, pass", api.Context{Pass: true}, 0, api.ErrForm},
		{"not valid, root 1", api.Context{Root: 1}, 0, api.ErrForm},
		{"not valid, root 63", api.Context{Root: 63}, 0, api.ErrForm},
		{"not valid, pass and a root", api.Context{Pass: true, Root: 5}, 0, api.ErrForm},
		{"pass with root 1", api.Context{Valid: true, Pass: true, Root: 1}, 0, api.ErrForm},
		{"pass with root 63", api.Context{Valid: true, Pass: true, Root: 63}, 0, api.ErrForm},
		{"root 64, and not valid", api.Context{Root: 64}, 0, api.ErrRange},
		{"root -1, and not valid", api.Context{Root: -1}, 0, api.ErrRange},
		{"root 64, and pass", api.Context{Valid: true, Pass: true, Root: 64}, 0, api.ErrRange},
		{"root -1, and pass", api.Context{Valid: true, Pass: true, Root: -1}, 0, api.ErrRange},
	} {
		if w, err := PutContext(c.c); w != c.w || err != c.err {
			t.Errorf("PutContext of %s: %d, %v, want %d, %v", c.name, w, err, c.w, c.err)
		}
	}
}

func TestPutContextNoPage(t *testing.T) {
	for _, root := range noPages {
		for _, c := range contexts(root) {
			if w, err := PutContext(c); w != 0 || err != api.ErrRange {
				t.Errorf("PutContext of %+v: %d, %v, want 0, ErrRange", c, w, err)
			}
		}
	}
}

// TestPutIsReadBack goes through every entry with a page: each that is put is
// read as itself, and how many are put is known.
func TestPutIsReadBack(t *testing.T) {
	put := 0
	for page := range 64 {
		for _, e := range entries(page) {
			w, err := Put(e)
			if err != api.OK {
				continue
			}
			put++
			if got, ok := Read(w); got != e || !ok {
				t.Errorf("Read of what was put, %+v as %d: %+v, %v", e, w, got, ok)
			}
		}
	}
	if put != 4*64+1 {
		t.Errorf("%d entries are put, want 4 of each page, and nothing", put)
	}
}

func TestPutContextIsReadBack(t *testing.T) {
	put := 0
	for root := range 64 {
		for _, c := range contexts(root) {
			w, err := PutContext(c)
			if err != api.OK {
				continue
			}
			put++
			if got, ok := ReadContext(w); got != c || !ok {
				t.Errorf("ReadContext of what was put, %+v as %d: %+v, %v", c, w, got, ok)
			}
		}
	}
	if put != 64+1+1 {
		t.Errorf("%d contexts are put, want one of each root, pass, and nothing", put)
	}
}

// TestReadIsPutBack: what a word says may be put, and gives that very word if it
// is valid; all words that aren't say the same as nought.
func TestReadIsPutBack(t *testing.T) {
	for w := 0; w <= 65535; w++ {
		want := w % 2 * w
		if e, ok := Read(w); ok {
			if got, err := Put(e); got != want || err != api.OK {
				t.Fatalf("Put of what %d says, %+v: %d, %v, want %d", w, e, got, err, want)
			}
		}
		if c, ok := ReadContext(w); ok {
			if got, err := PutContext(c); got != want || err != api.OK {
				t.Fatalf("PutContext of what %d says, %+v: %d, %v, want %d", w, c, got, err, want)
			}
		}
	}
}
