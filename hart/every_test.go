package hart

import (
	"testing"

	"drawbridge/api"
)

// model is a step, told once more by itself: by the parts of the word, and with
// false where it ends.
func model(l *left, w int) bool {
	kind, a, b, imm := w/4096, w/512%8, w/64%8, w%64
	r := l.h.R
	place := r[b] + imm
	l.h.At = (l.h.At + 1) % 512
	switch {
	case kind == api.ISet && b == 0:
		r[a] = imm
	case kind == api.IAdd && imm == 0:
		r[a] = int(uint16(r[a]) + uint16(r[b]))
	case kind == api.IShift && b == 0:
		r[a] = int(uint16(r[a]) << imm)
	case kind == api.ILoad && place < 512:
		r[a] = l.m.W[place]
	case kind == api.IStore && place < 512:
		l.m.W[place] = r[a]
	case kind == api.ISame:
		if r[a] == r[b] {
			l.h.At = imm
		}
	case kind == api.IOut && b == 0 && imm < 10:
		return modelOut(&l.b, imm, r[a])
	case kind == api.IIn && b == 0 && imm < 10:
		r[a] = seen(l.b)[imm]
	default:
		return false
	}
	return true
}

// modelOut knows by a limit of each register what it may be: those that can't be set
// have none.
func modelOut(b *api.Bridge, imm, w int) bool {
	if w >= [10]int{3, 64, 64, 8, 0, 64, 8, 0, 0, 1}[imm] {
		return false
	}
	if imm == 9 {
		b.Stopped, b.Lost = false, false
		return true
	}
	*[]*int{&b.Mode, &b.Base, &b.Orders.Page, &b.Orders.Tail, nil, &b.Faults.Page, &b.Faults.Head}[imm] = w
	return true
}

// seen is all registers of a bridge in the order of the document.
func seen(b api.Bridge) [10]int {
	r := [10]int{b.Mode, b.Base, b.Orders.Page, b.Orders.Tail, b.Orders.Head, b.Faults.Page, b.Faults.Head, b.Faults.Tail, b.Fences}
	if b.Stopped {
		r[9] = 1
	}
	if b.Lost {
		r[9] += 2
	}
	return r
}

// TestEveryWordThatThereIs: of each what it does, or that it ends, by registers that
// hold edges.
func TestEveryWordThatThereIs(t *testing.T) {
	for w := range 65536 {
		place := []int{0, 20, 511}[w%3]
		m, b := world(place, w), inState(w%2 == 1, w%5 > 2)
		for _, r := range [][]int{
			{0, 1, 2, 7, 8, 63, 64, 511},
			{511, 448, 449, 65535, 32768, 3, 0, 1},
		} {
			h := api.Hart{At: place, R: r}
			want := copies(m, h, b)
			if !model(&want, w) {
				ends(t, "it ends", m, h, b)
				continue
			}
			leaves(t, "it goes on", m, h, b, want)
		}
	}
}
