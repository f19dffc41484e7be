// Package mem is memory: so many words, each of sixteen bits. See doc/01-mem.md.
package mem

import (
	"slices"

	"drawbridge/api"
)

// New is memory with nothing but noughts in it.
func New() api.Mem { return api.Mem{W: make([]int, api.Words)} }

// Check says what is wrong with a memory. How many words there are is told
// ahead of what they are, so a memory of the wrong length is never ErrRange.
func Check(m api.Mem) api.Errno {
	if len(m.W) != api.Words {
		return api.ErrForm
	}
	for _, w := range m.W {
		if !isWord(w) {
			return api.ErrRange
		}
	}
	return api.OK
}

// Same says whether two memories are alike, right ones or not; no list and an
// empty one are alike.
func Same(a, b api.Mem) bool { return slices.Equal(a.W, b.W) }

// Read is the word at a place.
func Read(m api.Mem, at int) (int, api.Errno) {
	if e := Check(m); e != api.OK {
		return 0, e
	}
	if !isPlace(at) {
		return 0, api.ErrWho
	}
	return m.W[at], api.OK
}

// Write is a memory of its own, as m but for the word at a place.
func Write(m api.Mem, at, w int) (api.Mem, api.Errno) {
	if e := Check(m); e != api.OK {
		return api.Mem{}, e
	}
	if !isPlace(at) {
		return api.Mem{}, api.ErrWho
	}
	if !isWord(w) {
		return api.Mem{}, api.ErrRange
	}
	// What is handed in stays as it was, so the word goes into a whole copy.
	n := New()
	copy(n.W, m.W)
	n.W[at] = w
	return n, api.OK
}

func isWord(w int) bool { return 0 <= w && w <= api.MaxWord }

func isPlace(at int) bool { return 0 <= at && at < api.Words }
