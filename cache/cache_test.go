package cache

import (
	"math"
	"slices"
	"testing"

	"drawbridge/api"
)

// marker fills spare room, so that a line that is written behind the others is seen.
var marker = api.Line{Dev: -77, Page: -77, At: -77}

var noDevs = []int{-1, -8, math.MinInt, 8, 9, 63, math.MaxInt}

var noPages = []int{-1, -64, math.MinInt, 64, 65, 512, math.MaxInt}

var noKinds = []int{-1, -2, math.MinInt, 4, 5, math.MaxInt}

// line is of a device's page, at a place that tells lines of unlike ones apart.
func line(dev, page int) api.Line {
	return api.Line{Dev: dev, Page: page, At: (dev*11 + page*5 + 1) % 64, Read: true, Write: page%2 == 1}
}

// lines has two lines of device 1 and two of page 4, so that a device alone or a
// page alone doesn't tell which line is meant.
func lines() []api.Line {
	return []api.Line{line(1, 4), line(2, 4), line(1, 63), line(0, 0), line(7, 1)}
}

// full is lines with one more: as many as there may be.
func full() []api.Line { return append(lines(), line(5, 5)) }

// roomy is the same lines with spare room behind them, filled with markers.
func roomy(l []api.Line) []api.Line {
	room := make([]api.Line, len(l)+3)
	for k := copy(room, l); k < len(room); k++ {
		room[k] = marker
	}
	return room[:len(l)]
}

// stays tells whether roomy lines are what they were, with their spare room.
func stays(room, were []api.Line) bool {
	for _, x := range room[len(room) : len(room)+3] {
		if x != marker {
			return false
		}
	}
	return slices.Equal(room, were)
}

// refused are lines that Check refuses, and why.
type refused struct {
	name string
	l    []api.Line
	want api.Errno
}

// with is full with x as line k.
func with(k int, x api.Line) []api.Line {
	l := full()
	l[k] = x
	return l
}

func allRefused() []refused {
	const n = 6
	bad, shut := line(8, 0), api.Line{}
	cases := []refused{
		{"one more than there may be", append(full(), line(6, 6)), api.ErrMany},
		{"many more", slices.Concat(full(), full(), full()), api.ErrMany},
		{"one more, and it is twice there", append(full(), line(1, 4)), api.ErrMany},
		{"one more, and the first is out of range", append(with(0, bad), line(6, 6)), api.ErrMany},
		{"one more, and the last is not read", append(full(), shut), api.ErrMany},

		{"out of range ahead of one that isn't read", append([]api.Line{bad, shut}, line(1, 1)), api.ErrRange},
		{"not read ahead of one that is out of range", append([]api.Line{shut, bad}, line(1, 1)), api.ErrForm},
		{"twice ahead of one that is out of range", []api.Line{line(1, 1), line(1, 1), bad}, api.ErrTwice},
		{"twice ahead of one that isn't read", []api.Line{line(1, 1), line(1, 1), shut}, api.ErrTwice},
		{"out of range ahead of one that is twice there", []api.Line{bad, line(1, 1), line(1, 1)}, api.ErrRange},
		{"not read ahead of one that is twice there", []api.Line{shut, line(1, 1), line(1, 1)}, api.ErrForm},
		{"out of range between two alike", []api.Line{line(1, 1), bad, line(1, 1)}, api.ErrRange},
		{"not read between two alike", []api.Line{line(1, 1), shut, line(1, 1)}, api.ErrForm},

		{"the same one, out of range, twice", []api.Line{bad, bad}, api.ErrRange},
		{"the same one, not read, twice", []api.Line{shut, shut}, api.ErrForm},
		{"not read, and of one ahead", []api.Line{line(0, 0), shut}, api.ErrForm},
		{"at no page, and of one ahead", []api.Line{line(0, 0), {At: 64, Read: true}}, api.ErrRange},
		{"out of range and not read", []api.Line{{Dev: 8}}, api.ErrRange},
		{"no page and not read", []api.Line{{Page: -1}}, api.ErrRange},
		{"at no page and not read", []api.Line{{At: 64}}, api.ErrRange},
		{"written and not read", []api.Line{{Write: true}}, api.ErrForm},
	}
	for k := range n {
		unread := full()[k]
		unread.Read = false
		cases = append(cases, refused{"not read", with(k, unread), api.ErrForm})
		for _, d := range noDevs {
			cases = append(cases, refused{"no device", with(k, api.Line{Dev: d, Read: true}), api.ErrRange})
		}
		for _, p := range noPages {
			cases = append(cases, refused{"no page", with(k, api.Line{Page: p, Read: true}), api.ErrRange})
			cases = append(cases, refused{"at no page", with(k, api.Line{Dev: 3, At: p, Read: true}), api.ErrRange})
		}
		for j := range n {
			twin := api.Line{Dev: full()[j].Dev, Page: full()[j].Page, At: 50, Read: true, Write: true}
			if j != k {
				cases = append(cases, refused{"twice the same", with(k, twin), api.ErrTwice})
			}
		}
	}
	return cases
}

func TestCheck(t *testing.T) {
	for _, c := range []struct {
		name string
		l    []api.Line
	}{
		{"no list", nil},
		{"no lines", []api.Line{}},
		{"one line", []api.Line{line(3, 9)}},
		{"one line of noughts that is read", []api.Line{{Read: true}}},
		{"the greatest that may be", []api.Line{{Dev: 7, Page: 63, At: 63, Read: true, Write: true}}},
		{"some lines", lines()},
		{"as many as there may be", full()},
		{"all of one device", []api.Line{line(1, 0), line(1, 1), line(1, 2)}},
		{"all of one page", []api.Line{line(0, 1), line(1, 1), line(2, 1)}},
		{"all at one page", []api.Line{{At: 9, Read: true}, {Dev: 1, At: 9, Read: true}, {Page: 1, At: 9, Read: true}}},
		{"device and page the other way round", []api.Line{line(1, 2), line(2, 1)}},
	} {
		if got := Check(c.l); got != api.OK {
			t.Errorf("%s: %v, want OK", c.name, got)
		}
	}
}

func TestCheckRefuses(t *testing.T) {
	for _, c := range allRefused() {
		if got := Check(c.l); got != c.want {
			t.Errorf("%s, %v: %v, want %v", c.name, c.l, got, c.want)
		}
	}
}

// TestEdgesOfALine: a line alone, with each edge of each of its parts.
func TestEdgesOfALine(t *testing.T) {
	pages := []int{-1, 0, 63, 64}
	for _, dev := range []int{-1, 0, 7, 8} {
		for _, page := range pages {
			for _, at := range pages {
				for flags := range 4 {
					x := api.Line{Dev: dev, Page: page, At: at, Read: flags%2 == 1, Write: flags/2 == 1}
					want := api.OK
					switch {
					case dev < 0 || dev > 7 || page < 0 || page > 63 || at < 0 || at > 63:
						want = api.ErrRange
					case flags%2 == 0:
						want = api.ErrForm
					}
					if got := Check([]api.Line{x}); got != want {
						t.Errorf("check %+v: %v, want %v", x, got, want)
					}
					l, e := Fill(nil, x)
					if e != want || (e == api.OK) != (len(l) == 1) || len(l) == 1 && l[0] != x {
						t.Errorf("fill %+v: %v, %v, want %v", x, l, e, want)
					}
				}
			}
		}
	}
}

func TestFind(t *testing.T) {
	for k, x := range full() {
		if got := Find(full(), x.Dev, x.Page); got != k {
			t.Errorf("line %d: found at %d", k, got)
		}
	}
	for _, c := range []struct {
		name      string
		l         []api.Line
		dev, page int
		want      int
	}{
		{"in no list", nil, 0, 0, -1},
		{"in no lines", []api.Line{}, 0, 0, -1},
		{"the only one", []api.Line{line(0, 0)}, 0, 0, 0},
		{"of the page of another", lines(), 0, 4, -1},
		{"of another's device and page", lines(), 2, 63, -1},
		{"device and page the other way round", lines(), 4, 1, -1},
		{"by where it is at", []api.Line{{Dev: 1, Page: 2, At: 3, Read: true}}, 1, 3, -1},
		{"no device", lines(), -1, 4, -1},
		{"no such device", lines(), 8, 4, -1},
		{"no page", lines(), 1, -1, -1},
		{"no such page", lines(), 1, 64, -1},
		{"far out", lines(), math.MinInt, math.MaxInt, -1},
	} {
		if got := Find(c.l, c.dev, c.page); got != c.want {
			t.Errorf("%s: %d, want %d", c.name, got, c.want)
		}
	}
}

// TestFindInWhatCheckRefuses: Find tells no error, so that what is there is found.
func TestFindInWhatCheckRefuses(t *testing.T) {
	for _, c := range []struct {
		name      string
		l         []api.Line
		dev, page int
		want      int
	}{
		{"behind as many as there may be", append(full(), line(6, 6)), 6, 6, 6},
		{"not there, of too many", slices.Concat(full(), full()), 6, 6, -1},
		{"the first of two alike", []api.Line{line(1, 1), line(2, 2), line(2, 2)}, 2, 2, 1},
		{"the first of two that are at unlike pages", []api.Line{{At: 5, Read: true}, {At: 4, Read: true}}, 0, 0, 0},
		{"not read", []api.Line{line(1, 1), {}}, 0, 0, 1},
		{"behind one that isn't read", []api.Line{{}, line(1, 1)}, 1, 1, 1},
		{"behind one out of range", []api.Line{line(8, 64), line(1, 1)}, 1, 1, 1},
		{"of no device", []api.Line{line(1, 1), {Dev: -1, Page: 3, Read: true}}, -1, 3, 1},
		{"of no page", []api.Line{line(1, 1), {Dev: 3, Page: 64, Read: true}}, 3, 64, 1},
		{"at no page", []api.Line{line(1, 1), {Dev: 3, Page: 6, At: 64, Read: true}}, 3, 6, 1},
	} {
		if got := Find(c.l, c.dev, c.page); got != c.want {
			t.Errorf("%s: %d, want %d", c.name, got, c.want)
		}
	}
	for _, c := range allRefused() {
		for _, x := range c.l {
			k := Find(c.l, x.Dev, x.Page)
			first := k >= 0 && c.l[k].Dev == x.Dev && c.l[k].Page == x.Page
			for j := 0; first && j < k; j++ {
				first = c.l[j].Dev != x.Dev || c.l[j].Page != x.Page
			}
			if !first {
				t.Errorf("%s: %+v is found at %d of %v", c.name, x, k, c.l)
			}
		}
	}
}

func TestFill(t *testing.T) {
	x := line(6, 6)
	for _, c := range []struct {
		name string
		l    []api.Line
		want []api.Line
	}{
		{"no list", nil, []api.Line{x}},
		{"no lines", []api.Line{}, []api.Line{x}},
		{"one line", []api.Line{line(1, 4)}, []api.Line{line(1, 4), x}},
		{"room for one more", lines(), append(lines(), x)},
		{"no room: the first is left out", full(), append(full()[1:], x)},
		{"of a device that is there", []api.Line{line(6, 5)}, []api.Line{line(6, 5), x}},
		{"of a page that is there", []api.Line{line(5, 6)}, []api.Line{line(5, 6), x}},
	} {
		got, e := Fill(c.l, x)
		if e != api.OK || !slices.Equal(got, c.want) {
			t.Errorf("%s: %v, %v, want %v", c.name, got, e, c.want)
		}
	}
}

// TestFillOnAndOn: the last ones that were filled in are there, in that order.
func TestFillOnAndOn(t *testing.T) {
	var l, ever []api.Line
	for k := range 8 * 64 {
		x := line(k%8, k/8)
		ever = append(ever, x)
		var e api.Errno
		if l, e = Fill(l, x); e != api.OK {
			t.Fatalf("line %d: %v", k, e)
		}
		if want := ever[max(0, len(ever)-6):]; !slices.Equal(l, want) {
			t.Fatalf("line %d: %v, want %v", k, l, want)
		}
		if e := Check(l); e != api.OK {
			t.Fatalf("line %d: what Fill answers is refused: %v", k, e)
		}
		if at := Find(l, x.Dev, x.Page); at != len(l)-1 {
			t.Fatalf("line %d: found at %d", k, at)
		}
	}
}

// TestFillTwice: one of the same device and page, whatever else it says, and also
// where that one would be left out.
func TestFillTwice(t *testing.T) {
	for _, l := range [][]api.Line{lines(), full()} {
		for k, y := range l {
			for _, x := range []api.Line{y, {Dev: y.Dev, Page: y.Page, At: 60, Read: true, Write: !y.Write}} {
				got, e := Fill(l, x)
				if e != api.ErrTwice || len(got) != 0 {
					t.Errorf("line %d of %d once more, %+v: %v, %v, want ErrTwice", k, len(l), x, got, e)
				}
			}
		}
	}
}

func TestFillRefusesALine(t *testing.T) {
	type wrong struct {
		x    api.Line
		want api.Errno
	}
	bad := []wrong{
		{api.Line{}, api.ErrForm},
		{api.Line{Dev: 1, Page: 4, At: 3, Write: true}, api.ErrForm},
		{api.Line{Dev: 6, Page: 6, At: 3}, api.ErrForm},
		{api.Line{Dev: 1, Page: 4, At: 64, Read: true}, api.ErrRange},
		{api.Line{Dev: 1, Page: 4, At: -1}, api.ErrRange},
	}
	for _, d := range noDevs {
		bad = append(bad, wrong{api.Line{Dev: d, Page: 4, Read: true}, api.ErrRange})
	}
	for _, p := range noPages {
		bad = append(bad, wrong{api.Line{Dev: 1, Page: p, Read: true}, api.ErrRange})
	}
	for _, c := range bad {
		for _, l := range [][]api.Line{nil, lines(), full()} {
			got, e := Fill(l, c.x)
			if e != c.want || len(got) != 0 {
				t.Errorf("%+v into %d lines: %v, %v, want %v", c.x, len(l), got, e, c.want)
			}
		}
	}
}

// TestFillRefusesLines: what is wrong with the lines is told ahead of what is
// wrong with the one to be filled in.
func TestFillRefusesLines(t *testing.T) {
	for _, c := range allRefused() {
		for _, x := range []api.Line{line(6, 9), line(8, 0), {}, line(1, 4), c.l[0]} {
			got, e := Fill(c.l, x)
			if e != c.want || len(got) != 0 {
				t.Errorf("%s, %+v into %v: %v, %v, want %v", c.name, x, c.l, got, e, c.want)
			}
		}
	}
}

func TestDrop(t *testing.T) {
	l := full()
	for _, c := range []struct {
		name string
		o    api.Order
		want []api.Line
	}{
		{"a fence", api.Order{Kind: api.Fence}, l},
		{"a fence that names a line", api.Order{Kind: api.Fence, Dev: 1, Page: 4}, l},
		{"all", api.Order{Kind: api.DropAll}, nil},
		{"all, naming a line", api.Order{Kind: api.DropAll, Dev: 1, Page: 4}, nil},
		{"all, naming nothing", api.Order{Kind: api.DropAll, Dev: -1, Page: 64}, nil},
		{"a device with two lines", api.Order{Kind: api.DropDev, Dev: 1}, []api.Line{l[1], l[3], l[4], l[5]}},
		{"a device, naming a page of it", api.Order{Kind: api.DropDev, Dev: 1, Page: 4}, []api.Line{l[1], l[3], l[4], l[5]}},
		{"device 0", api.Order{Kind: api.DropDev}, []api.Line{l[0], l[1], l[2], l[4], l[5]}},
		{"device 7", api.Order{Kind: api.DropDev, Dev: 7}, []api.Line{l[0], l[1], l[2], l[3], l[5]}},
		{"a device with no line", api.Order{Kind: api.DropDev, Dev: 3}, l},
		{"device -1", api.Order{Kind: api.DropDev, Dev: -1}, l},
		{"device 8", api.Order{Kind: api.DropDev, Dev: 8}, l},
		{"the first line", api.Order{Kind: api.DropOne, Dev: 1, Page: 4}, l[1:]},
		{"the last line", api.Order{Kind: api.DropOne, Dev: 5, Page: 5}, l[:5]},
		{"line 0, 0", api.Order{Kind: api.DropOne}, []api.Line{l[0], l[1], l[2], l[4], l[5]}},
		{"page 63", api.Order{Kind: api.DropOne, Dev: 1, Page: 63}, []api.Line{l[0], l[1], l[3], l[4], l[5]}},
		{"another page of a device", api.Order{Kind: api.DropOne, Dev: 2, Page: 63}, l},
		{"a page of another device", api.Order{Kind: api.DropOne, Dev: 3, Page: 4}, l},
		{"page -1", api.Order{Kind: api.DropOne, Dev: 1, Page: -1}, l},
		{"page 64", api.Order{Kind: api.DropOne, Dev: 1, Page: 64}, l},
	} {
		got, e := Drop(full(), c.o)
		if e != api.OK || !slices.Equal(got, c.want) {
			t.Errorf("%s: %v, %v, want %v", c.name, got, e, c.want)
		}
	}
}

func TestDropOfNoLines(t *testing.T) {
	for _, l := range [][]api.Line{nil, {}} {
		for kind := range 4 {
			got, e := Drop(l, api.Order{Kind: kind})
			if e != api.OK || len(got) != 0 {
				t.Errorf("kind %d: %v, %v, want no lines", kind, got, e)
			}
		}
	}
}

func TestDropOfOneLine(t *testing.T) {
	for kind, want := range []int{1, 0, 0, 0} {
		got, e := Drop([]api.Line{line(3, 9)}, api.Order{Kind: kind, Dev: 3, Page: 9})
		if e != api.OK || len(got) != want {
			t.Errorf("kind %d: %v, %v, want %d lines", kind, got, e, want)
		}
	}
}

// TestEveryOrder: line by line, each order that there may be, and some beyond.
func TestEveryOrder(t *testing.T) {
	for kind := range 4 {
		for dev := -1; dev <= 8; dev++ {
			for page := -1; page <= 64; page++ {
				var want []api.Line
				for _, x := range full() {
					stay := kind == 0 || kind == 2 && x.Dev != dev || kind == 3 && (x.Dev != dev || x.Page != page)
					if stay {
						want = append(want, x)
					}
				}
				got, e := Drop(full(), api.Order{Kind: kind, Dev: dev, Page: page})
				if e != api.OK || !slices.Equal(got, want) {
					t.Fatalf("kind %d, device %d, page %d: %v, %v, want %v", kind, dev, page, got, e, want)
				}
			}
		}
	}
}

func TestDropOfNoKind(t *testing.T) {
	for _, kind := range noKinds {
		for _, l := range [][]api.Line{nil, lines(), full()} {
			got, e := Drop(l, api.Order{Kind: kind, Dev: 1, Page: 4})
			if e != api.ErrForm || len(got) != 0 {
				t.Errorf("kind %d of %d lines: %v, %v, want ErrForm", kind, len(l), got, e)
			}
		}
	}
}

// TestDropRefusesLines: what is wrong with the lines is told ahead of a kind that
// is none, and also where the order would drop what is wrong.
func TestDropRefusesLines(t *testing.T) {
	for _, c := range allRefused() {
		for kind := -1; kind <= 4; kind++ {
			got, e := Drop(c.l, api.Order{Kind: kind, Dev: c.l[0].Dev, Page: c.l[0].Page})
			if e != c.want || len(got) != 0 {
				t.Errorf("%s, kind %d of %v: %v, %v, want %v", c.name, kind, c.l, got, e, c.want)
			}
		}
	}
}

// TestWhatIsHandedInStays: whatever is asked, the lines and the spare room behind
// them are only read.
func TestWhatIsHandedInStays(t *testing.T) {
	lists := [][]api.Line{nil, {line(1, 4)}, lines(), full()}
	for _, c := range allRefused() {
		lists = append(lists, c.l)
	}
	for _, were := range lists {
		l := roomy(were)
		Check(l)
		Find(l, 1, 4)
		for _, x := range []api.Line{line(6, 6), line(1, 4), {}, line(8, 0)} {
			Fill(l, x)
		}
		for kind := -1; kind <= 4; kind++ {
			Drop(l, api.Order{Kind: kind, Dev: 1, Page: 4})
		}
		if !stays(l, were) {
			t.Errorf("%v became %v", were, l[:cap(l)])
		}
	}
}

// TestWhatIsAnsweredIsNew: writing all over an answer, and over its spare room,
// leaves what was handed in as it was.
func TestWhatIsAnsweredIsNew(t *testing.T) {
	for _, were := range [][]api.Line{nil, {line(1, 4)}, lines(), full()} {
		l := roomy(were)
		var answers [][]api.Line
		filled, _ := Fill(l, line(6, 6))
		answers = append(answers, filled)
		for kind := range 4 {
			kept, _ := Drop(l, api.Order{Kind: kind, Dev: 1, Page: 4})
			answers = append(answers, kept)
		}
		for _, a := range answers {
			a = a[:cap(a)]
			for k := range a {
				a[k] = api.Line{Dev: 99}
			}
		}
		if !stays(l, were) {
			t.Errorf("%v became %v", were, l[:cap(l)])
		}
	}
}
