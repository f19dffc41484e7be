package audit

import (
	"math"
	"testing"

	"drawbridge/api"
)

func TestCheckOfRightTouches(t *testing.T) {
	for dev := range 8 {
		for value := 0; value <= 65535; value += 13107 {
			for _, x := range []api.Touch{
				{}, reading(0, 0, 9, 3), writing(0, 0, 9, 3), reading(0, 63, 0, 7), writing(0, 0, 63, 0), writing(0, 63, 63, 7),
			} {
				x.Dev, x.Value = dev, value
				if e := Check(x); e != api.OK {
					t.Errorf("Check of %+v: %v", x, e)
				}
			}
		}
	}
}

// TestCheckOfEveryPlace: Seen and At must be at the same one of their pages.
func TestCheckOfEveryPlace(t *testing.T) {
	for seen := range 512 {
		for at := range 512 {
			want := api.ErrForm
			if seen%8 == at%8 {
				want = api.OK
			}
			for _, write := range []bool{false, true} {
				x := api.Touch{Dev: 5, Seen: seen, At: at, Write: write, Value: 9}
				if e := Check(x); e != want {
					t.Fatalf("Check of %+v: %v, want %v", x, e, want)
				}
			}
		}
	}
}

func TestCheckOfEveryValue(t *testing.T) {
	for value := -300; value < 65536+300; value++ {
		want := api.OK
		if value < 0 || value > 65535 {
			want = api.ErrRange
		}
		if e := Check(api.Touch{Seen: 8, At: 16, Value: value}); e != want {
			t.Fatalf("Check of the value %d: %v, want %v", value, e, want)
		}
	}
}

func TestCheckOfWrongTouches(t *testing.T) {
	for _, c := range wrongTouches() {
		if e := Check(c.x); e != c.want {
			t.Errorf("%s: Check of %+v: %v, want %v", c.name, c.x, e, c.want)
		}
	}
}

// TestCheckTellsTheFirst: each field at its edges, beyond them and far beyond, with
// each of the others.
func TestCheckTellsTheFirst(t *testing.T) {
	out := func(n, below int) bool { return n < 0 || n >= below }
	places := []int{math.MinInt, -8, -1, 0, 1, 8, 15, 504, 511, 512, 520, math.MaxInt}
	for _, dev := range []int{math.MinInt, -1, 0, 7, 8, math.MaxInt} {
		for _, seen := range places {
			for _, at := range places {
				for _, value := range []int{math.MinInt, -1, 0, 65535, 65536, math.MaxInt} {
					want := api.OK
					switch {
					case out(dev, 8) || out(seen, 512) || out(at, 512):
						want = api.ErrWho
					case out(value, 65536):
						want = api.ErrRange
					case seen%8 != at%8:
						want = api.ErrForm
					}
					for _, write := range []bool{false, true} {
						x := api.Touch{Dev: dev, Seen: seen, At: at, Write: write, Value: value}
						if e := Check(x); e != want {
							t.Errorf("Check of %+v: %v, want %v", x, e, want)
						}
					}
				}
			}
		}
	}
}
