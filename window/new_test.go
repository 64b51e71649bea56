package window_test

import (
	"math"
	"slices"
	"testing"

	"telemeter/sketch"
	"telemeter/window"
)

// There is none but where there is a sketch, and whiles are 1 to 2^40 long, whatever the seed.
func TestNew(t *testing.T) {
	wrong := []int{math.MinInt, math.MinInt + 1, -last, -8, -1, 0, last + 1, last + 2, 1 << 41, 1 << 62, math.MaxInt - 1, math.MaxInt}
	right := []int{1, 2, 10, 1 << 20, last - 1, last}
	for _, rows := range append([]int{1, 2, 8, 9}, wrong...) {
		for _, width := range append([]int{1, 2, 1023, 1024, 1025}, wrong...) {
			for _, seed := range []uint64{0, 1, greatest} {
				for _, long := range append(wrong, right...) {
					is := window.New(rows, width, seed, long) != nil
					want := sketch.New(rows, width, seed) != nil && slices.Contains(right, long)
					if is != want {
						t.Errorf("New(%d, %d, %#x, %d): there is one: %v", rows, width, seed, long, is)
					}
				}
			}
		}
	}
}

func TestNewEach(t *testing.T) {
	for n := -20; n <= 1100; n++ {
		for _, c := range []struct {
			shape
			want bool
		}{
			{shape{n, 3, 0, 10}, n >= 1 && n <= 8},
			{shape{3, n, 0, 10}, n >= 1 && n <= 1024},
			{shape{3, 3, 0, n}, n >= 1},
			{shape{3, 3, 0, last - n}, n >= 0},
		} {
			if is := c.made() != nil; is != c.want {
				t.Errorf("New by %+v: there is one: %v", c.shape, is)
			}
		}
	}
}

// A new window is at time 0, and nothing was counted; no time ahead of that is taken.
func TestNewIsEmpty(t *testing.T) {
	for _, f := range someShapes() {
		wantAsWorded(t, pairOf(f))
		wantErrTime(t, f.made(), -1)
		wantErrTime(t, f.made(), math.MinInt)
		wantOpen(t, f.made(), 0, "a", 0)
		wantClosed(t, f.made(), 0, "a", 0)
		wantAdd(t, f.made(), 0, "a", 1)
	}
}

// Windows know nothing of one another, those that were made alike too.
func TestWindowsAreApart(t *testing.T) {
	for _, f := range someShapes() {
		one, other := pairOf(f), pairOf(f)
		for _, p := range []pair{one, other} {
			wantAdd(t, p.is, 0, "a", 3)
			p.w.add(0, "a", 3)
		}
		now := min(f.long, last)
		wantAdd(t, one.is, now, "b", 5)
		one.w.add(now, "b", 5)
		wantAsWorded(t, other)
		wantAsWorded(t, one)
	}
}
