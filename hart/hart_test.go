package hart

import (
	"math"
	"slices"
	"testing"

	"drawbridge/api"
)

var noPlaces = []int{-1, -2, -512, math.MinInt, api.Words, api.Words + 1, 1024, math.MaxInt}

var noWords = []int{-1, -2, -65536, math.MinInt, api.MaxWord + 1, 65537, math.MaxInt}

// badHart is one that Check refuses, and why.
type badHart struct {
	name string
	h    api.Hart
	want api.Errno
}

// badHarts are made of right ones with one thing wrong, or with several.
func badHarts() []badHart {
	l := []badHart{
		{"no registers", api.Hart{At: 3}, api.ErrForm},
		{"nothing at all", api.Hart{}, api.ErrForm},
		{"an empty list", api.Hart{At: 3, R: []int{}}, api.ErrForm},
		{"one register", api.Hart{At: 3, R: make([]int, 1)}, api.ErrForm},
		{"one too few", api.Hart{At: 3, R: make([]int, 7)}, api.ErrForm},
		{"one too few, with room for it", api.Hart{At: 3, R: make([]int, 7, 8)}, api.ErrForm},
		{"one too many", api.Hart{At: 3, R: make([]int, 9)}, api.ErrForm},
		{"no registers, and no place", api.Hart{At: -1}, api.ErrForm},
		{"one too few, and no place", api.Hart{At: 512, R: make([]int, 7)}, api.ErrForm},
		{"one too many, and no word", api.Hart{At: 3, R: []int{-1, 0, 0, 0, 0, 0, 0, 0, 0}}, api.ErrForm},
		{"one too few, no place and no word", api.Hart{At: 512, R: []int{0, 0, 0, 0, 0, 0, 65536}}, api.ErrForm},
		{"no place, and no word", api.Hart{At: 512, R: []int{0, 0, 0, 0, 0, 0, 0, -1}}, api.ErrRange},
	}
	for _, at := range noPlaces {
		l = append(l, badHart{"no place", api.Hart{At: at, R: make([]int, 8)}, api.ErrRange})
	}
	for k := range 8 {
		for _, w := range noWords {
			h := api.Hart{At: 3, R: make([]int, 8)}
			h.R[k] = w
			l = append(l, badHart{"no word", h, api.ErrRange})
		}
	}
	for _, c := range slices.Clone(l) {
		c.name, c.h.Done = c.name+", and done", true
		l = append(l, c)
	}
	return l
}

func TestNewAtEveryPlace(t *testing.T) {
	for at := range 512 {
		h, e := New(at)
		if e != api.OK || h.At != at || h.Done || !slices.Equal(h.R, []int{0, 0, 0, 0, 0, 0, 0, 0}) {
			t.Errorf("New(%d): %+v, %v", at, h, e)
		}
		if e := Check(h); e != api.OK {
			t.Errorf("Check of New(%d): %v", at, e)
		}
	}
}

func TestNewAtNoPlace(t *testing.T) {
	for _, at := range noPlaces {
		h, e := New(at)
		if e != api.ErrRange || h.At != 0 || h.R != nil || h.Done {
			t.Errorf("New(%d): %+v, %v, want nothing, ErrRange", at, h, e)
		}
	}
}

func TestNewIsItsOwn(t *testing.T) {
	a, _ := New(3)
	b, _ := New(3)
	a.R[5] = 9
	c, _ := New(3)
	if b.R[5] != 0 || c.R[5] != 0 {
		t.Errorf("a register of one hart is set, and others have %d, %d", b.R[5], c.R[5])
	}
}

func TestCheckOfRightHarts(t *testing.T) {
	for _, at := range []int{0, 1, 255, 510, 511} {
		for _, done := range []bool{false, true} {
			for k := range 8 {
				for _, w := range []int{0, 1, 32768, 65534, api.MaxWord} {
					h := api.Hart{At: at, R: make([]int, 8), Done: done}
					h.R[k] = w
					if e := Check(h); e != api.OK {
						t.Errorf("Check of %+v: %v", h, e)
					}
				}
			}
		}
	}
}

func TestCheckRefuses(t *testing.T) {
	for _, c := range badHarts() {
		if e := Check(c.h); e != c.want {
			t.Errorf("%s, %+v: %v, want %v", c.name, c.h, e, c.want)
		}
	}
}

func TestCheckLeavesAllAsItWas(t *testing.T) {
	room := []int{1, 2, 3, 4, 5, 6, 7, 8, marker, marker}
	Check(api.Hart{At: 3, R: room[:8]})
	Same(api.Hart{At: 3, R: room[:8]}, api.Hart{At: 3, R: room[1:9]})
	if !slices.Equal(room, []int{1, 2, 3, 4, 5, 6, 7, 8, marker, marker}) {
		t.Errorf("the registers and the room behind them are %v", room)
	}
}

// unlike are harts no two of which are alike, right ones and wrong ones.
func unlike() []api.Hart {
	l := []api.Hart{{}, {At: 1}, {At: -1}, {Done: true}, {R: []int{0}}, {R: []int{-1}}}
	r := []int{11, 12, 13, 14, 15, 16, 17, 18}
	l = append(l,
		api.Hart{At: 3, R: r}, api.Hart{At: 4, R: r}, api.Hart{At: 515, R: r}, api.Hart{At: 3, R: r, Done: true},
		api.Hart{At: 3, R: r[:7]}, api.Hart{At: 3, R: r[1:]}, api.Hart{At: 3, R: append(slices.Clone(r), 0)},
		api.Hart{At: 3, R: []int{12, 11, 13, 14, 15, 16, 17, 18}},
	)
	for k := range r {
		h := api.Hart{At: 3, R: slices.Clone(r)}
		h.R[k] += 65536
		l = append(l, h)
	}
	return l
}

func TestSame(t *testing.T) {
	for j, a := range unlike() {
		for k, b := range unlike() {
			b.R = slices.Clone(b.R)
			if got := Same(a, b); got != (j == k) {
				t.Errorf("Same of %+v, %+v: %v", a, b, got)
			}
		}
	}
}

func TestSameOfNoRegisters(t *testing.T) {
	none, empty := api.Hart{At: 3}, api.Hart{At: 3, R: []int{}}
	if !Same(none, empty) || !Same(empty, none) || !Same(none, none) || !Same(empty, empty) {
		t.Errorf("no list and an empty one aren't alike")
	}
}
