package code

import (
	"math"
	"testing"

	"drawbridge/api"
)

var noKinds = []int{-1, -2, -9, -16, math.MinInt, 9, 10, 15, 16, 17, math.MaxInt}

var noRegs = []int{-1, -8, math.MinInt, 8, 9, 15, 16, 64, math.MaxInt}

var noImms = []int{-1, -64, math.MinInt, api.MaxImm + 1, 65, 127, 512, math.MaxInt}

var noWords = []int{-1, -2, -64, -4096, -65535, -65536, math.MinInt, api.MaxWord + 1, 65537, 65536 + 4101, 65536 + 21125, 131072, math.MaxInt}

// What the document says that each kind uses; told here field by field, so that
// it doesn't lean on the program's own telling.
var uses = []struct{ a, b, imm bool }{
	api.IHalt:  {},
	api.ISet:   {a: true, imm: true},
	api.IAdd:   {a: true, b: true},
	api.IShift: {a: true, imm: true},
	api.ILoad:  {a: true, b: true, imm: true},
	api.IStore: {a: true, b: true, imm: true},
	api.ISame:  {a: true, b: true, imm: true},
	api.IOut:   {a: true, imm: true},
	api.IIn:    {a: true, imm: true},
}

func mayBe(x api.Ins) bool {
	u := uses[x.Kind]
	return (u.a || x.A == 0) && (u.b || x.B == 0) && (u.imm || x.Imm == 0)
}

// wordsOf are all instructions whose fields are in range, in the order of their
// words: the n-th is put as n, if it may be put at all.
func wordsOf() []api.Ins {
	var l []api.Ins
	for kind := range 9 {
		for a := range 8 {
			for b := range 8 {
				for imm := range 64 {
					l = append(l, api.Ins{Kind: kind, A: a, B: b, Imm: imm})
				}
			}
		}
	}
	return l
}

func putIs(t *testing.T, name string, x api.Ins, w int, want api.Errno) {
	t.Helper()
	if got, e := Put(x); got != w || e != want {
		t.Errorf("Put of %+v, %s: %d, %v, want %d, %v", x, name, got, e, w, want)
	}
}

func readIs(t *testing.T, name string, w int, x api.Ins, want api.Errno) {
	t.Helper()
	if got, e := Read(w); got != x || e != want {
		t.Errorf("Read of %d, %s: %+v, %v, want %+v, %v", w, name, got, e, x, want)
	}
}

func TestEachKindPutAndRead(t *testing.T) {
	for _, c := range []struct {
		name string
		x    api.Ins
		w    int
	}{
		{"halt", api.Ins{Kind: api.IHalt}, 0},
		{"set, all nought", api.Ins{Kind: api.ISet}, 4096},
		{"set", api.Ins{Kind: api.ISet, A: 3, Imm: 5}, 5637},
		{"set, the most", api.Ins{Kind: api.ISet, A: 7, Imm: 63}, 7743},
		{"add, all nought", api.Ins{Kind: api.IAdd}, 8192},
		{"add", api.Ins{Kind: api.IAdd, A: 7, B: 3}, 11968},
		{"add, the most", api.Ins{Kind: api.IAdd, A: 7, B: 7}, 12224},
		{"shift, all nought", api.Ins{Kind: api.IShift}, 12288},
		{"shift", api.Ins{Kind: api.IShift, A: 1, Imm: 4}, 12804},
		{"shift, the most", api.Ins{Kind: api.IShift, A: 7, Imm: 63}, 15935},
		{"load, all nought", api.Ins{Kind: api.ILoad}, 16384},
		{"load", api.Ins{Kind: api.ILoad, A: 2, B: 1, Imm: 9}, 17481},
		{"load, the most", api.Ins{Kind: api.ILoad, A: 7, B: 7, Imm: 63}, 20479},
		{"store, all nought", api.Ins{Kind: api.IStore}, 20480},
		{"store", api.Ins{Kind: api.IStore, A: 1, B: 2, Imm: 5}, 21125},
		{"store, the most", api.Ins{Kind: api.IStore, A: 7, B: 7, Imm: 63}, 24575},
		{"same, all nought", api.Ins{Kind: api.ISame}, 24576},
		{"same", api.Ins{Kind: api.ISame, A: 4, B: 6, Imm: 33}, 27041},
		{"same, the most", api.Ins{Kind: api.ISame, A: 7, B: 7, Imm: 63}, 28671},
		{"out, all nought", api.Ins{Kind: api.IOut}, 28672},
		{"out", api.Ins{Kind: api.IOut, A: 5, Imm: api.RState}, 31241},
		{"out, the most", api.Ins{Kind: api.IOut, A: 7, Imm: 63}, 32319},
		{"in, all nought", api.Ins{Kind: api.IIn}, 32768},
		{"in", api.Ins{Kind: api.IIn, A: 6, Imm: api.RFences}, 35848},
		{"in, the most", api.Ins{Kind: api.IIn, A: 7, Imm: 63}, 36415},
	} {
		putIs(t, c.name, c.x, c.w, api.OK)
		readIs(t, c.name, c.w, c.x, api.OK)
	}
}

func TestPutRange(t *testing.T) {
	for _, c := range []struct {
		name string
		x    api.Ins
	}{
		{"kind -1", api.Ins{Kind: -1}},
		{"kind 9", api.Ins{Kind: 9}},
		{"A -1", api.Ins{Kind: api.ISet, A: -1}},
		{"A 8", api.Ins{Kind: api.ISet, A: 8}},
		{"B -1", api.Ins{Kind: api.IAdd, B: -1}},
		{"B 8", api.Ins{Kind: api.IAdd, B: 8}},
		{"Imm -1", api.Ins{Kind: api.ISet, Imm: -1}},
		{"Imm 64", api.Ins{Kind: api.ISet, Imm: api.MaxImm + 1}},
		{"what sums up to a right word", api.Ins{Kind: api.ILoad, Imm: 64}},
		{"what sums up to a right word, by A", api.Ins{Kind: api.ILoad, A: 8}},
		{"what sums up to a right word, by B", api.Ins{Kind: api.ILoad, B: 8}},
		{"what sums up to a right word, below", api.Ins{Kind: api.ILoad, A: 1, B: -1}},
		{"what sums up to nought", api.Ins{Kind: -1, A: 8}},
	} {
		putIs(t, c.name, c.x, 0, api.ErrRange)
	}
}

// TestPutRangeFirst: whatever form the instruction has, and whatever else isn't
// in range, that a field may not be is told first; also of what has no use.
func TestPutRangeFirst(t *testing.T) {
	regs, imms := []int{-1, 0, 1, 7, 8}, []int{-1, 0, 1, 63, 64}
	for kind := -1; kind <= 9; kind++ {
		for _, y := range regs {
			for _, imm := range imms {
				for _, r := range noRegs {
					putIs(t, "no A", api.Ins{Kind: kind, A: r, B: y, Imm: imm}, 0, api.ErrRange)
					putIs(t, "no B", api.Ins{Kind: kind, A: y, B: r, Imm: imm}, 0, api.ErrRange)
				}
			}
			for _, z := range regs {
				for _, n := range noImms {
					putIs(t, "no Imm", api.Ins{Kind: kind, A: y, B: z, Imm: n}, 0, api.ErrRange)
				}
			}
		}
	}
	for _, k := range noKinds {
		for _, a := range regs {
			for _, b := range regs {
				for _, imm := range imms {
					putIs(t, "no kind", api.Ins{Kind: k, A: a, B: b, Imm: imm}, 0, api.ErrRange)
				}
			}
		}
	}
}

func TestPutForm(t *testing.T) {
	for _, c := range []struct {
		name string
		x    api.Ins
	}{
		{"halt with A", api.Ins{Kind: api.IHalt, A: 1}},
		{"halt with B", api.Ins{Kind: api.IHalt, B: 1}},
		{"halt with Imm", api.Ins{Kind: api.IHalt, Imm: 1}},
		{"halt with the last A", api.Ins{Kind: api.IHalt, A: 7}},
		{"halt with the last B", api.Ins{Kind: api.IHalt, B: 7}},
		{"halt with the last Imm", api.Ins{Kind: api.IHalt, Imm: api.MaxImm}},
		{"halt with all", api.Ins{Kind: api.IHalt, A: 1, B: 1, Imm: 1}},
		{"set with B", api.Ins{Kind: api.ISet, B: 1}},
		{"set with all", api.Ins{Kind: api.ISet, A: 7, B: 7, Imm: api.MaxImm}},
		{"add with Imm", api.Ins{Kind: api.IAdd, Imm: 1}},
		{"add with all", api.Ins{Kind: api.IAdd, A: 7, B: 7, Imm: api.MaxImm}},
		{"shift with B", api.Ins{Kind: api.IShift, B: 1}},
		{"shift with all", api.Ins{Kind: api.IShift, A: 1, B: 7, Imm: 1}},
		{"out with B", api.Ins{Kind: api.IOut, B: 1}},
		{"out with all", api.Ins{Kind: api.IOut, A: 1, B: 7, Imm: 1}},
		{"in with B", api.Ins{Kind: api.IIn, B: 1}},
		{"in with all", api.Ins{Kind: api.IIn, A: 1, B: 7, Imm: 1}},
	} {
		putIs(t, c.name, c.x, 0, api.ErrForm)
	}
}

func TestPutEvery(t *testing.T) {
	for w, x := range wordsOf() {
		if mayBe(x) {
			putIs(t, "right", x, w, api.OK)
		} else {
			putIs(t, "wrong form", x, 0, api.ErrForm)
		}
	}
}

// TestReadEvery goes through every word; how many of them are instructions is
// counted by hand: halt; four kinds of A, Imm; add; three kinds of all.
func TestReadEvery(t *testing.T) {
	words, right := wordsOf(), 0
	for w := 0; w <= api.MaxWord; w++ {
		if w < len(words) && mayBe(words[w]) {
			readIs(t, "right", w, words[w], api.OK)
			right++
		} else {
			readIs(t, "no instruction", w, api.Ins{}, api.ErrForm)
		}
	}
	if want := 1 + 4*8*64 + 8*8 + 3*8*8*64; right != want {
		t.Errorf("%d words are instructions, want %d", right, want)
	}
}

func TestReadErrors(t *testing.T) {
	for _, w := range noWords {
		readIs(t, "no word", w, api.Ins{}, api.ErrRange)
	}
	for _, c := range []struct {
		name string
		w    int
	}{
		{"halt with Imm", 1},
		{"halt with the last Imm", 63},
		{"halt with B", 64},
		{"halt with A", 512},
		{"halt with all", 4095},
		{"set with B", 4096 + 64},
		{"set with all", 8191},
		{"add with Imm", 8192 + 1},
		{"add with all", 12287},
		{"shift with B", 12288 + 64},
		{"shift with all", 16383},
		{"out with B", 28672 + 64},
		{"out with all", 32767},
		{"in with B", 32768 + 64},
		{"in with all", 36863},
		{"kind 9", 36864},
		{"kind 9 with A and Imm", 36864 + 512 + 5},
		{"kind 10", 40960},
		{"kind 15", 61440},
		{"all bits", api.MaxWord},
	} {
		readIs(t, c.name, c.w, api.Ins{}, api.ErrForm)
	}
}

// TestPutIsReadAndReadIsPut goes round both ways: no two words are read alike,
// and none is read that isn't put.
func TestPutIsReadAndReadIsPut(t *testing.T) {
	times := map[api.Ins]int{}
	for w := 0; w <= api.MaxWord; w++ {
		if x, e := Read(w); e == api.OK {
			times[x]++
			putIs(t, "as it was read", x, w, api.OK)
		}
	}
	for _, x := range wordsOf() {
		w, e := Put(x)
		if e != api.OK {
			if times[x] != 0 {
				t.Errorf("%d words are read as %+v, which isn't put", times[x], x)
			}
			continue
		}
		readIs(t, "as it was put", w, x, api.OK)
		if times[x] != 1 {
			t.Errorf("%d words are read as %+v, want one", times[x], x)
		}
	}
}
