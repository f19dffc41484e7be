package word

import (
	"math"
	"testing"

	"drawbridge/api"
)

var noKinds = []int{-1, -4, math.MinInt, 4, 5, 8, math.MaxInt}

var noCauses = []int{0, -1, -8, math.MinInt, 6, 7, 8, 9, math.MaxInt}

var noDevs = []int{-1, -8, math.MinInt, 8, 9, 64, math.MaxInt}

var noPages = []int{-1, -64, math.MinInt, 64, 65, 2048, math.MaxInt}

var noWords = []int{-1, -2, -4096, -65535, -65536, math.MinInt, 65536, 65537, 65536 + 171, 65536 + 4235, 131072, math.MaxInt}

// orderWords are all orders that there are, by their words; which these are is
// counted up here, so that it doesn't lean on the program's own arithmetic.
func orderWords() map[int]api.Order {
	l := map[int]api.Order{0: {Kind: api.Fence}, 1: {Kind: api.DropAll}}
	w := 2
	for dev := range 8 {
		l[w] = api.Order{Kind: api.DropDev, Dev: dev}
		w += 4
	}
	w = 3
	for page := range 64 {
		for dev := range 8 {
			l[w] = api.Order{Kind: api.DropOne, Dev: dev, Page: page}
			w += 4
		}
	}
	return l
}

// faultWords are all faults that there are, by their words, counted up likewise:
// of each eight words the first and the last two are none.
func faultWords() map[int]api.Fault {
	l := map[int]api.Fault{}
	w := 0
	for _, write := range []bool{false, true} {
		for page := range 64 {
			for dev := range 8 {
				for cause := api.Shut; cause <= api.NoRight; cause++ {
					l[w+cause] = api.Fault{Cause: cause, Dev: dev, Page: page, Write: write}
				}
				w += 8
			}
		}
	}
	return l
}

func putOrderIs(t *testing.T, name string, o api.Order, w int, want api.Errno) {
	t.Helper()
	if got, e := PutOrder(o); got != w || e != want {
		t.Errorf("PutOrder of %+v, %s: %d, %v, want %d, %v", o, name, got, e, w, want)
	}
}

func readOrderIs(t *testing.T, name string, w int, o api.Order, want api.Errno) {
	t.Helper()
	if got, e := ReadOrder(w); got != o || e != want {
		t.Errorf("ReadOrder of %d, %s: %+v, %v, want %+v, %v", w, name, got, e, o, want)
	}
}

func putFaultIs(t *testing.T, name string, f api.Fault, w int, want api.Errno) {
	t.Helper()
	if got, e := PutFault(f); got != w || e != want {
		t.Errorf("PutFault of %+v, %s: %d, %v, want %d, %v", f, name, got, e, w, want)
	}
}

func readFaultIs(t *testing.T, name string, w int, f api.Fault, want api.Errno) {
	t.Helper()
	if got, e := ReadFault(w); got != f || e != want {
		t.Errorf("ReadFault of %d, %s: %+v, %v, want %+v, %v", w, name, got, e, f, want)
	}
}

func TestOrdersPutAndRead(t *testing.T) {
	for _, c := range []struct {
		name string
		o    api.Order
		w    int
	}{
		{"a fence", api.Order{Kind: api.Fence}, 0},
		{"all", api.Order{Kind: api.DropAll}, 1},
		{"the first device", api.Order{Kind: api.DropDev}, 2},
		{"a device", api.Order{Kind: api.DropDev, Dev: 3}, 14},
		{"the last device", api.Order{Kind: api.DropDev, Dev: 7}, 30},
		{"the first page of the first device", api.Order{Kind: api.DropOne}, 3},
		{"the first page of the last device", api.Order{Kind: api.DropOne, Dev: 7}, 31},
		{"a page of the first device", api.Order{Kind: api.DropOne, Page: 1}, 35},
		{"a page of a device", api.Order{Kind: api.DropOne, Dev: 2, Page: 5}, 171},
		{"the last page of the first device", api.Order{Kind: api.DropOne, Page: 63}, 2019},
		{"the last page of the last device", api.Order{Kind: api.DropOne, Dev: 7, Page: 63}, 2047},
	} {
		putOrderIs(t, c.name, c.o, c.w, api.OK)
		readOrderIs(t, c.name, c.w, c.o, api.OK)
	}
}

func TestPutOrderErrors(t *testing.T) {
	for _, c := range []struct {
		name string
		o    api.Order
		want api.Errno
	}{
		{"kind -1", api.Order{Kind: -1}, api.ErrRange},
		{"kind 4", api.Order{Kind: 4}, api.ErrRange},
		{"device -1", api.Order{Kind: api.DropOne, Dev: -1}, api.ErrRange},
		{"device 8", api.Order{Kind: api.DropDev, Dev: 8}, api.ErrRange},
		{"page -1", api.Order{Kind: api.DropOne, Page: -1}, api.ErrRange},
		{"page 64", api.Order{Kind: api.DropOne, Page: 64}, api.ErrRange},
		{"a fence of a device", api.Order{Kind: api.Fence, Dev: 1}, api.ErrForm},
		{"a fence of the last device", api.Order{Kind: api.Fence, Dev: 7}, api.ErrForm},
		{"a fence of a page", api.Order{Kind: api.Fence, Page: 1}, api.ErrForm},
		{"a fence of the last page", api.Order{Kind: api.Fence, Page: 63}, api.ErrForm},
		{"all of a device", api.Order{Kind: api.DropAll, Dev: 1}, api.ErrForm},
		{"all of a page", api.Order{Kind: api.DropAll, Page: 1}, api.ErrForm},
		{"all of a device and a page", api.Order{Kind: api.DropAll, Dev: 7, Page: 63}, api.ErrForm},
		{"a device, of a page", api.Order{Kind: api.DropDev, Page: 1}, api.ErrForm},
		{"the last device, of the last page", api.Order{Kind: api.DropDev, Dev: 7, Page: 63}, api.ErrForm},
		{"a fence of no page, and of a device", api.Order{Kind: api.Fence, Dev: 1, Page: 64}, api.ErrRange},
		{"a fence of no device, and of a page", api.Order{Kind: api.Fence, Dev: -1, Page: 1}, api.ErrRange},
		{"no kind, of a device and a page", api.Order{Kind: 4, Dev: 1, Page: 1}, api.ErrRange},
		{"what sums up to a right word", api.Order{Kind: 7, Dev: 1}, api.ErrRange},
		{"what sums up to a right word, below", api.Order{Kind: api.DropOne, Dev: -1, Page: 1}, api.ErrRange},
	} {
		putOrderIs(t, c.name, c.o, 0, c.want)
	}
}

// TestPutOrderOutOfRange: whatever form the order has, that a field may not be
// is told first.
func TestPutOrderOutOfRange(t *testing.T) {
	for _, dev := range []int{-1, 0, 3, 7, 8} {
		for _, page := range []int{-1, 0, 5, 63, 64} {
			for _, k := range noKinds {
				putOrderIs(t, "no kind", api.Order{Kind: k, Dev: dev, Page: page}, 0, api.ErrRange)
			}
		}
	}
	for kind := range 4 {
		for _, d := range noDevs {
			for _, page := range []int{-1, 0, 5, 63, 64} {
				putOrderIs(t, "no device", api.Order{Kind: kind, Dev: d, Page: page}, 0, api.ErrRange)
			}
		}
		for _, p := range noPages {
			for _, dev := range []int{-1, 0, 3, 7, 8} {
				putOrderIs(t, "no page", api.Order{Kind: kind, Dev: dev, Page: p}, 0, api.ErrRange)
			}
		}
	}
}

// TestPutEveryOrder goes through every order whose fields are in range.
func TestPutEveryOrder(t *testing.T) {
	words := map[api.Order]int{}
	for w, o := range orderWords() {
		words[o] = w
	}
	for kind := range 4 {
		for dev := range 8 {
			for page := range 64 {
				o := api.Order{Kind: kind, Dev: dev, Page: page}
				if w, ok := words[o]; ok {
					putOrderIs(t, "right", o, w, api.OK)
				} else {
					putOrderIs(t, "wrong form", o, 0, api.ErrForm)
				}
			}
		}
	}
}

func TestReadEveryOrder(t *testing.T) {
	words := orderWords()
	if len(words) != 1+1+8+8*64 {
		t.Fatalf("%d words of orders", len(words))
	}
	for w := 0; w <= 65535; w++ {
		if o, ok := words[w]; ok {
			readOrderIs(t, "right", w, o, api.OK)
		} else {
			readOrderIs(t, "no order", w, api.Order{}, api.ErrForm)
		}
	}
}

func TestReadOrderErrors(t *testing.T) {
	for _, w := range noWords {
		readOrderIs(t, "no word", w, api.Order{}, api.ErrRange)
	}
	for _, c := range []struct {
		name string
		w    int
	}{
		{"a fence of a device", 4},
		{"all of a device", 5},
		{"a fence of a page", 32},
		{"all of a page", 33},
		{"a device, of a page", 34},
		{"a fence and a bit behind the page", 2048},
		{"all and a bit behind the page", 2049},
		{"a device and a bit behind the page", 2048 + 14},
		{"a page of a device and a bit behind the page", 2048 + 171},
		{"a page of a device and the highest bit", 32768 + 171},
		{"all bits", api.MaxWord},
	} {
		readOrderIs(t, c.name, c.w, api.Order{}, api.ErrForm)
	}
}

func TestFaultsPutAndRead(t *testing.T) {
	for _, c := range []struct {
		name string
		f    api.Fault
		w    int
	}{
		{"shut", api.Fault{Cause: api.Shut}, 1},
		{"no way", api.Fault{Cause: api.NoWay}, 2},
		{"no page", api.Fault{Cause: api.NoPage}, 3},
		{"a bad entry", api.Fault{Cause: api.BadEntry}, 4},
		{"no right", api.Fault{Cause: api.NoRight}, 5},
		{"a device", api.Fault{Cause: api.Shut, Dev: 1}, 9},
		{"the last device", api.Fault{Cause: api.NoRight, Dev: 7}, 61},
		{"a page", api.Fault{Cause: api.Shut, Page: 1}, 65},
		{"the last page", api.Fault{Cause: api.NoWay, Page: 63}, 4034},
		{"to write", api.Fault{Cause: api.Shut, Write: true}, 4097},
		{"a page of a device", api.Fault{Cause: api.NoPage, Dev: 1, Page: 2}, 139},
		{"a page of a device, to write", api.Fault{Cause: api.NoPage, Dev: 1, Page: 2, Write: true}, 4235},
		{"the greatest that reads", api.Fault{Cause: api.NoRight, Dev: 7, Page: 63}, 4093},
		{"the greatest", api.Fault{Cause: api.NoRight, Dev: 7, Page: 63, Write: true}, 8189},
	} {
		putFaultIs(t, c.name, c.f, c.w, api.OK)
		readFaultIs(t, c.name, c.w, c.f, api.OK)
	}
}

func TestPutFaultErrors(t *testing.T) {
	for _, write := range []bool{false, true} {
		for _, dev := range []int{-1, 0, 3, 7, 8} {
			for _, page := range []int{-1, 0, 5, 63, 64} {
				for _, c := range noCauses {
					putFaultIs(t, "no cause", api.Fault{Cause: c, Dev: dev, Page: page, Write: write}, 0, api.ErrRange)
				}
			}
		}
		for cause := api.Shut; cause <= api.NoRight; cause++ {
			for _, d := range noDevs {
				putFaultIs(t, "no device", api.Fault{Cause: cause, Dev: d, Page: 5, Write: write}, 0, api.ErrRange)
			}
			for _, p := range noPages {
				putFaultIs(t, "no page", api.Fault{Cause: cause, Dev: 3, Page: p, Write: write}, 0, api.ErrRange)
			}
		}
	}
	putFaultIs(t, "no device and no page", api.Fault{Cause: api.Shut, Dev: 8, Page: -1}, 0, api.ErrRange)
}

func TestPutEveryFault(t *testing.T) {
	for w, f := range faultWords() {
		putFaultIs(t, "right", f, w, api.OK)
	}
}

func TestReadEveryFault(t *testing.T) {
	words := faultWords()
	if len(words) != 5*8*64*2 {
		t.Fatalf("%d words of faults", len(words))
	}
	for w := 0; w <= 65535; w++ {
		if f, ok := words[w]; ok {
			readFaultIs(t, "right", w, f, api.OK)
		} else {
			readFaultIs(t, "no fault", w, api.Fault{}, api.ErrForm)
		}
	}
}

func TestReadFaultErrors(t *testing.T) {
	for _, w := range noWords {
		readFaultIs(t, "no word", w, api.Fault{}, api.ErrRange)
	}
	for _, c := range []struct {
		name string
		w    int
	}{
		{"nought", 0},
		{"cause 6", 6},
		{"cause 7", 7},
		{"a device, and no cause", 8},
		{"a page, and no cause", 64},
		{"to write, and no cause", 4096},
		{"a device's page to write, and cause 6", 4238},
		{"a bit behind write", 8193},
		{"a bit behind write, and write", 8192 + 4235},
		{"the highest bit", 32768 + 139},
		{"all bits", api.MaxWord},
	} {
		readFaultIs(t, c.name, c.w, api.Fault{}, api.ErrForm)
	}
}

// TestPutIsReadAndReadIsPut goes round both ways: no two words are read alike,
// and none is read that isn't put.
func TestPutIsReadAndReadIsPut(t *testing.T) {
	orders, faults := map[api.Order]int{}, map[api.Fault]int{}
	for w := 0; w <= 65535; w++ {
		if o, e := ReadOrder(w); e == api.OK {
			orders[o]++
			putOrderIs(t, "as it was read", o, w, api.OK)
		}
		if f, e := ReadFault(w); e == api.OK {
			faults[f]++
			putFaultIs(t, "as it was read", f, w, api.OK)
		}
	}
	for _, o := range orderWords() {
		w, _ := PutOrder(o)
		readOrderIs(t, "as it was put", w, o, api.OK)
		if orders[o] != 1 {
			t.Errorf("%d words are read as %+v, want one", orders[o], o)
		}
	}
	for _, f := range faultWords() {
		w, _ := PutFault(f)
		readFaultIs(t, "as it was put", w, f, api.OK)
		if faults[f] != 1 {
			t.Errorf("%d words are read as %+v, want one", faults[f], f)
		}
	}
}
