package rate_test

import (
	"math"
	"slices"
	"testing"

	"telemeter/api"
	"telemeter/rate"
	"telemeter/window"
)

// There is none but where there is a window, and a target, whatever the seed.
func TestNew(t *testing.T) {
	wrong := []int{math.MinInt, -last, -1, 0, last + 1, 1 << 41, math.MaxInt}
	right := []int{1, 2, 10, 1 << 20, last - 1, last}
	for _, rows := range append([]int{1, 2, 8, 9}, wrong...) {
		for _, width := range append([]int{1, 2, 1023, 1024, 1025}, wrong...) {
			for _, long := range append(wrong, right...) {
				for _, seed := range []uint64{0, 1, greatest} {
					for _, target := range []uint64{0, 1, 2, whole, whole + 1, 1 << 63, greatest} {
						is := rate.New(rows, width, seed, long, target) != nil
						want := rows >= 1 && rows <= 8 && width >= 1 && width <= 1024 && slices.Contains(right, long) && target > 0
						if is != want {
							t.Errorf("New(%d, %d, %#x, %d, %d): there is one: %v", rows, width, seed, long, target, is)
						}
					}
				}
			}
		}
	}
}

func TestNewEach(t *testing.T) {
	for n := -20; n <= 1100; n++ {
		for _, f := range []shape{{n, 3, 0, 10, 1}, {3, n, 0, 10, 1}, {3, 3, 0, n, 1}, {3, 3, 0, last - n, 1}} {
			if is := f.made() != nil; is != (f.window() != nil) {
				t.Errorf("New by %+v: there is one: %v", f, is)
			}
			f.target = 0
			if f.made() != nil {
				t.Errorf("New by %+v: there is one", f)
			}
		}
	}
	for target := range uint64(300) {
		if is := rate.New(3, 3, 0, 10, target) != nil; is != (target > 0) {
			t.Errorf("New by target %d: there is one: %v", target, is)
		}
	}
}

// A new rate is at time 0, and nothing was counted: all of each key are kept; no time ahead of that is taken.
func TestNewIsEmpty(t *testing.T) {
	for _, f := range someShapes() {
		wantAsWorded(t, pairOf(f))
		wantErrTime(t, f.made(), -1)
		for _, now := range []int{0, 1, f.long - 1, f.long, last} {
			wantAsk(t, f.made(), now, "a", 0)
		}
	}
}

// Rates know nothing of one another, those that were made alike too, nor of a window that was.
func TestRatesAreApart(t *testing.T) {
	for _, f := range someShapes() {
		one, other, w := f.made(), f.made(), f.window()
		for range 3 {
			wantAsk(t, one, 0, "a", 0)
		}
		wantOpen(t, one, 0, "a", 3)
		wantOpen(t, other, 0, "a", 0)
		if n, e := w.Open(0, "a"); n != 0 || e != api.OK {
			t.Errorf("Open(0, a): %d, %d; want 0", n, e)
		}
		wantAsk(t, other, 0, "a", 0)
		wantAsk(t, one, f.long, "a", byByWords(f.target, 3))
		wantOpen(t, other, 0, "a", 1) // the time of one is not the other's
		wantAsk(t, other, f.long, "a", 0)
	}
}

// The window's own calls are the rate's, as they are.
func TestWindowsCallsAreThere(t *testing.T) {
	var calls interface {
		Add(now int, key string, n uint64) api.Errno
		Closed(now int, key string) (uint64, api.Errno)
		Open(now int, key string) (uint64, api.Errno)
	} = window.New(1, 1, 0, 1)
	if calls.Add(0, "a", 1) != api.OK {
		t.Error("a window's Add")
	}
	calls = rate.New(1, 1, 0, 1, 1)
	if calls.Add(0, "a", 1) != api.OK {
		t.Error("a rate's Add")
	}
}
