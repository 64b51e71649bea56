package tail_test

import (
	"math"
	"testing"

	"telemeter/api"
	"telemeter/tail"
)

// The chapter's example.
func TestExample(t *testing.T) {
	b := tail.New(2, 10, 1)
	wantOffer(t, b, 0, of(0, 1, 7), api.Taken)
	wantOffer(t, b, 4, of(0, 1, 8), api.Taken)
	wantOffer(t, b, 4, of(0, 1, 9), api.Busy)
	wantDue(t, b, 9)
	wantDue(t, b, 10, group(of(0, 1, 7), of(0, 1, 8)))
	wantLen(t, b, 0)
	wantNext(t, b, 0, false)
}

// There is none but of 1 to 5000 spans, a wait of 1 to 2^40, and 1 to 5000 decisions, each with each.
func TestNew(t *testing.T) {
	right := func(n, most int) bool { return n > 0 && n <= most }
	made := map[bool]int{}
	for _, spans := range edges() {
		for _, wait := range edges() {
			for _, cache := range edges() {
				want := right(spans, 5000) && right(wait, 1099511627776) && right(cache, 5000)
				made[want]++
				if is := tail.New(spans, wait, cache) != nil; is != want {
					t.Errorf("New(%d, %d, %d): there is one: %t", spans, wait, cache, is)
				}
			}
		}
	}
	if made[true] < 100 || made[false] < 100 {
		t.Errorf("there is one, or none: %v", made)
	}
}

func TestNewEach(t *testing.T) {
	for n := -100; n <= mostSpans+100; n++ {
		want := n >= 1 && n <= mostSpans
		if is := tail.New(n, 10, 10) != nil; is != want {
			t.Errorf("New(%d, 10, 10): there is one: %t", n, is)
		}
		if is := tail.New(10, 10, n) != nil; is != want {
			t.Errorf("New(10, 10, %d): there is one: %t", n, is)
		}
		if is := tail.New(10, n, 10) != nil; is != (n >= 1) {
			t.Errorf("New(10, %d, 10): there is one: %t", n, is)
		}
		if is := tail.New(10, mostTime-n, 10) != nil; is != (n >= 0) {
			t.Errorf("New(10, 2^40 - %d, 10): there is one: %t", n, is)
		}
	}
}

// shapes are spans, wait and cache of some buffers.
func shapes() [][3]int {
	return [][3]int{{1, 1, 1}, {2, 10, 1}, {1, 10, 2}, {3, 1, 3}, {7, 100, 5}, {5000, mostTime, 5000}, {5000, 1, 1}, {1, mostTime, 5000}}
}

// In a new one nothing waits, no decision is known, and the time is 0.
func TestNewIsEmpty(t *testing.T) {
	for _, f := range shapes() {
		b := tail.New(f[0], f[1], f[2])
		for range 2 {
			wantLen(t, b, 0)
			wantNext(t, b, 0, false)
			for _, n := range edges() {
				wantKnown(t, b, 0, uint64(n), false, false)
				wantKnown(t, b, uint64(n), 0, false, false)
				wantKnown(t, b, uint64(n), uint64(n), false, false)
			}
			wantErrTime(t, b, -1)
			wantErrTime(t, b, math.MinInt)
			wantDue(t, b, 0)
		}
		wantOffer(t, tail.New(f[0], f[1], f[2]), 0, of(0, 0, 0), api.Taken)
		wantDue(t, tail.New(f[0], f[1], f[2]), 1<<40)
	}
}

// One that all went out of is as a new one, but for its time, and what was decided.
func TestEmptyAgain(t *testing.T) {
	for _, f := range shapes() {
		if f[1] == mostTime {
			continue
		}
		p := pairOf(f[0], f[1], f[2])
		for round := range 3 {
			now := round * f[1]
			for id := range f[0] {
				wantOffer(t, p.b, now, of(uint64(id%2), 5, uint64(id)), api.Taken)
				p.w.offer(now, of(uint64(id%2), 5, uint64(id)))
			}
			p.offer(t, now, of(0, 5, 77))
			p.due(t, now+f[1])
			wantLen(t, p.b, 0)
			wantNext(t, p.b, 0, false)
		}
	}
}

// R4: buffers know nothing of one another, those that were made alike too.
func TestBuffersAreApart(t *testing.T) {
	for _, f := range shapes() {
		one, other := pairOf(f[0], f[1], f[2]), pairOf(f[0], f[1], f[2])
		one.offer(t, 0, full(0, 1, 8))
		other.look(t)
		one.decide(t, 0, 1, true)
		one.decide(t, 0, 2, false)
		other.look(t)
		other.offer(t, 0, full(0, 2, 5))
		one.offer(t, 1, of(0, 2, 6))
		other.offer(t, 0, full(0, 2, 7)) // the time of the other one is still 0
		other.decide(t, 0, 1, false)
		one.due(t, mostTime)
		other.look(t)
		one.look(t)
		other.due(t, f[1]-1)
		other.due(t, f[1])
		one.look(t)
	}
}
