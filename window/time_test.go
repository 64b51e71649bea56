package window_test

import (
	"math"
	"testing"

	"telemeter/api"
	"telemeter/window"
)

// ways are the calls: each takes a time, and makes it the window's.
func ways() map[string]func(w *window.Window, now int) api.Errno {
	return map[string]func(w *window.Window, now int) api.Errno{
		"Add":    func(w *window.Window, now int) api.Errno { return w.Add(now, "a", 1) },
		"Open":   func(w *window.Window, now int) api.Errno { _, e := w.Open(now, "a"); return e },
		"Closed": func(w *window.Window, now int) api.Errno { _, e := w.Closed(now, "a"); return e },
	}
}

func wantTime(t *testing.T, name string, long, latest, now int, got, want api.Errno) {
	t.Helper()
	if got != want {
		t.Errorf("%s at %d, of whiles of %d, behind a call at %d: %d; want %d", name, now, long, latest, got, want)
	}
}

// Whichever call told the latest time, and whichever comes then: what is ahead of it, or above 2^40, is not taken.
func TestTimes(t *testing.T) {
	for _, long := range []int{1, 7, 10, 1 << 39, last} {
		for _, latest := range []int{0, 1, 9, 10, 11, 20, 1 << 39, last - 1, last} {
			for first, come := range ways() {
				for name, call := range ways() {
					for _, now := range append([]int{latest - 1, latest, latest + 1, last - 1, last}, wrongTimes()...) {
						w := shape{2, 8, 1, long}.made()
						wantTime(t, first, long, 0, latest, come(w, latest), api.OK)
						want := api.ErrTime
						if now >= latest && now <= last {
							want = api.OK
						}
						wantTime(t, name, long, latest, now, call(w, now), want)
					}
				}
			}
		}
	}
}

// The same time may come again and again; the time goes on by one as by many.
func TestTimesInOrder(t *testing.T) {
	for name, call := range ways() {
		w := wide(10).made()
		for _, now := range []int{0, 0, 1, 2, 2, 2, 9, 10, 11, 100, 101, last - 1, last, last} {
			wantTime(t, name, 10, 0, now, call(w, now), api.OK)
			wantTime(t, name, 10, now, now-1, call(w, now-1), api.ErrTime)
			wantTime(t, name, 10, now, -1, call(w, -1), api.ErrTime)
		}
	}
}

// Add, Open and Closed alike turn the whiles: what was open is closed by any of them, and what was closed is gone.
func TestEachCallMovesTime(t *testing.T) {
	for name, call := range ways() {
		w := wide(10).made()
		wantAdd(t, w, 3, "k", 5)
		wantTime(t, name, 10, 3, 12, call(w, 12), api.OK)
		wantErrTime(t, w, 11)
		wantOpen(t, w, 12, "k", 0)
		wantClosed(t, w, 12, "k", 5)
		wantTime(t, name, 10, 12, 25, call(w, 25), api.OK)
		wantErrTime(t, w, 24)
		wantOpen(t, w, 25, "k", 0)
		wantClosed(t, w, 25, "k", 0)
	}
}

// A call that told ErrTime changes neither the time nor any count.
func TestRefusedChangesNothing(t *testing.T) {
	for _, now := range append([]int{0, 1, 12, 19, 20, 24}, wrongTimes()...) {
		for name, call := range ways() {
			w := wide(10).made()
			wantAdd(t, w, 12, "a", 5)
			wantAdd(t, w, 25, "a", 7)
			for range 3 {
				wantTime(t, name, 10, 25, now, call(w, now), api.ErrTime)
			}
			wantOpen(t, w, 25, "a", 7) // the time is still 25
			wantClosed(t, w, 25, "a", 5)
			wantTime(t, name, 10, 25, now, call(w, now), api.ErrTime)
			wantClosed(t, w, 30, "a", 7)
			wantOpen(t, w, 30, "a", 0)
		}
	}
}

// One that told ErrTime ahead of all others leaves the window at time 0.
func TestRefusedFirst(t *testing.T) {
	for _, now := range wrongTimes() {
		w := wide(10).made()
		wantErrTime(t, w, now)
		wantOpen(t, w, 0, "a", 0)
		wantErrTime(t, w, now)
		wantAdd(t, w, 0, "a", 4)
		wantClosed(t, w, 10, "a", 4)
	}
}

// At 2^40 the time stands: that one is taken ever again, and counts go on.
func TestLastTime(t *testing.T) {
	for _, long := range []int{1, 2, 3, 10, 1 << 20, 1 << 39} {
		w := wide(long).made()
		wantAdd(t, w, last-long, "a", 3)
		wantAdd(t, w, last, "a", 4)
		wantErrTime(t, w, last+1)
		wantErrTime(t, w, last-1)
		wantErrTime(t, w, math.MaxInt)
		wantAdd(t, w, last, "a", 5)
		wantOpen(t, w, last, "a", 9)
		wantClosed(t, w, last, "a", 3)
	}
}
