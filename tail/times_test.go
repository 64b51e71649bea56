package tail_test

import (
	"math"
	"testing"

	"telemeter/api"
	"telemeter/tail"
)

// ways are calls that take a time, and make it the buffer's, by what they tell of a buffer that is readyFor it.
func ways() map[string]func(b *tail.Buffer, now int) (uint8, api.Errno) {
	offer := func(lo uint64) func(b *tail.Buffer, now int) (uint8, api.Errno) {
		return func(b *tail.Buffer, now int) (uint8, api.Errno) { return b.Offer(now, of(0, lo, 9)) }
	}
	return map[string]func(b *tail.Buffer, now int) (uint8, api.Errno){
		"Taken": offer(1), "Busy": offer(1), "Late": offer(2), "After": offer(3),
		"Due": func(b *tail.Buffer, now int) (uint8, api.Errno) { l, e := b.Due(now); return uint8(len(l)), e },
	}
}

func toldBy() map[string]uint8 {
	return map[string]uint8{"Taken": api.Taken, "Busy": api.Busy, "Late": api.Late, "After": api.After, "Due": 0}
}

// readyFor is a buffer that tells so of ways' spans.
func readyFor(way string) *tail.Buffer {
	spans := 1
	if way == "Taken" {
		spans = 5
	}
	b := tail.New(spans, mostTime, 5)
	b.Decide(0, 2, false)
	b.Decide(0, 3, true)
	if way == "Busy" {
		b.Offer(0, of(0, 1, 1))
	}
	return b
}

// wantTaken: Due takes that time.
func wantTaken(t *testing.T, b *tail.Buffer, now int) {
	t.Helper()
	if _, e := b.Due(now); e != api.OK {
		t.Errorf("Due(%d): %d", now, e)
	}
}

// Whichever call told the latest time, whatever it told, and whichever comes then: what is ahead of it, or above 2^40, is not taken.
func TestTimes(t *testing.T) {
	for _, latest := range []int{0, 1, 9, 1 << 20, mostTime - 1, mostTime} {
		for name, first := range ways() {
			for _, now := range append(edges(), latest-1, latest+1, latest) {
				b := readyFor(name)
				if got, e := first(b, latest); got != toldBy()[name] || e != api.OK {
					t.Fatalf("%s at %d: %d, %d", name, latest, got, e)
				}
				if now < latest || now > mostTime {
					wantErrTime(t, b, now)
					wantErrTime(t, b, latest-1) // the time is as it was
					wantTaken(t, b, latest)
					continue
				}
				if _, e := b.Offer(now, of(0, 2, 1)); e != api.OK {
					t.Errorf("Offer at %d, behind %s at %d: %d", now, name, latest, e)
				}
				wantTaken(t, b, now)
				wantErrTime(t, b, now-1)
			}
		}
	}
}

// The same time may come again and again; the time goes on by one as by many.
func TestTimesInOrder(t *testing.T) {
	for name, way := range ways() {
		b := readyFor(name)
		b.Offer(0, of(0, 1, 1))
		for _, now := range []int{0, 0, 1, 2, 2, 2, 9, 10, 100, mostTime - 1, mostTime, mostTime} {
			if _, e := way(b, now); e != api.OK {
				t.Errorf("%s at %d: %d", name, now, e)
			}
			wantErrTime(t, b, now-1)
			wantErrTime(t, b, mostTime+1)
			wantErrTime(t, b, -1)
		}
	}
}

// Decide, Known, Len and Next take no time on.
func TestTimeStays(t *testing.T) {
	b := tail.New(3, 5, 3)
	wantOffer(t, b, 7, of(0, 1, 1), api.Taken)
	b.Decide(0, 2, true)
	b.Known(0, 2)
	b.Len()
	b.Next()
	wantOffer(t, b, 7, of(0, 1, 2), api.Taken)
	wantErrTime(t, b, 6)
	wantDue(t, b, 7)
}

// A call that told ErrTime changes nothing: what waits, what is known, and the time stay as they were.
func TestRefusedChangesNothing(t *testing.T) {
	for _, now := range append(edges(), 24, 25) {
		if now >= 25 && now <= mostTime {
			continue
		}
		p := pairOf(3, 10, 2)
		p.offer(t, 20, full(0, 1, 3))
		p.offer(t, 25, full(0, 2, 4))
		p.decide(t, 0, 7, true)
		p.decide(t, 0, 8, false)
		for range 4 { // oftener than there is room
			for _, lo := range []uint64{1, 2, 5, 7, 8} {
				p.offer(t, now, full(0, lo, 5))
			}
			p.due(t, now)
		}
		wantErrTime(t, p.b, now)
		p.look(t)
		p.offer(t, 25, full(0, 2, 6)) // the time is still 25
		p.offer(t, 25, full(0, 2, 7))
		p.due(t, 29)
		wantErrTime(t, p.b, now)
		p.due(t, 35)
		wantLen(t, p.b, 0)
	}
}

// One that told ErrTime ahead of all others leaves the buffer at time 0.
func TestRefusedFirst(t *testing.T) {
	for _, now := range []int{math.MinInt, -1 << 40, -2, -1, mostTime + 1, mostTime + 2, 1 << 41, math.MaxInt} {
		b := tail.New(2, 3, 1)
		wantErrTime(t, b, now)
		wantLen(t, b, 0)
		wantNext(t, b, 0, false)
		wantOffer(t, b, 0, of(0, 1, 1), api.Taken)
		wantErrTime(t, b, now)
		wantNext(t, b, 3, true)
		wantDue(t, b, 3, group(of(0, 1, 1)))
	}
}

// At 2^40 the time stands. What is due behind that is told by Next, and stays.
func TestLastTime(t *testing.T) {
	for _, wait := range []int{1, 2, 1000, mostTime - 1, mostTime} {
		p := pairOf(2, wait, 1)
		p.offer(t, mostTime-wait, of(0, 1, 1))
		p.due(t, mostTime-1)
		if l := p.due(t, mostTime); len(l) != 1 {
			t.Errorf("waits %d: %s are due at 2^40", wait, short(l))
		}
		p.offer(t, mostTime, of(0, 1, 2))
		wantNext(t, p.b, mostTime+wait, true)
		p.offer(t, mostTime, of(0, 1, 3))
		p.offer(t, mostTime, of(0, 1, 4))
		p.due(t, mostTime)
		p.due(t, mostTime+wait)
		wantLen(t, p.b, 2)
	}
}
