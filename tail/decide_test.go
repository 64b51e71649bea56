package tail_test

import (
	"math"
	"math/rand"
	"testing"

	"telemeter/api"
	"telemeter/tail"
)

// What was decided is known, of that trace alone; of what was not, neither that it is kept nor that it is not.
func TestDecide(t *testing.T) {
	p := pairOf(3, 10, 3)
	p.decide(t, 1, 2, true)
	wantKnown(t, p.b, 1, 2, true, true)
	p.decide(t, 3, 4, false)
	wantKnown(t, p.b, 1, 2, true, true)
	wantKnown(t, p.b, 3, 4, false, true)
	for range 2 {
		wantKnown(t, p.b, 2, 1, false, false)
		wantKnown(t, p.b, 1, 4, false, false)
		wantKnown(t, p.b, 3, 2, false, false)
		wantKnown(t, p.b, 0, 0, false, false)
	}
	p.decide(t, 0, 0, true)
	wantKnown(t, p.b, 0, 0, true, true)
}

// Of traces that differ in Hi alone, or in Lo alone, each has its own decision.
func TestKnownApart(t *testing.T) {
	numbers := []uint64{0, 1, 2, 1 << 31, 1 << 32, 1<<32 + 1, 1 << 63, 1<<63 + 1, math.MaxUint64}
	for _, a := range numbers {
		for _, b := range numbers {
			for _, c := range numbers {
				x := tail.New(1, 1, 5)
				x.Decide(a, c, true)
				wantKnown(t, x, b, c, a == b, a == b)
				wantKnown(t, x, a, b, b == c, b == c)
				x.Decide(b, c, false)
				wantKnown(t, x, a, c, a != b, true)
				wantKnown(t, x, b, c, false, true)
				x.Decide(a, b, true)
				wantKnown(t, x, a, b, true, true)
				wantKnown(t, x, b, c, a == b && b == c, true)
			}
		}
	}
}

// As many as may are known; with one more the oldest is known no more.
func TestCache(t *testing.T) {
	for _, cache := range []int{1, 2, 3, 10, 4999, mostSpans} {
		b := tail.New(1, 1, cache)
		for n := range 2*cache + 3 {
			wantKnown(t, b, 0, uint64(n), false, false)
			b.Decide(0, uint64(n), n%3 == 0)
			wantKnown(t, b, 0, uint64(n), n%3 == 0, true)
			oldest := n - cache + 1
			if oldest >= 0 {
				wantKnown(t, b, 0, uint64(oldest), oldest%3 == 0, true)
			}
			if oldest > 0 {
				wantKnown(t, b, 0, uint64(oldest-1), false, false)
			}
		}
		for n := range 2*cache + 3 {
			is := n >= cache+3
			wantKnown(t, b, 0, uint64(n), is && n%3 == 0, is)
		}
	}
}

// Each trace of a full cache is told anew, with the same and with the other decision: it is the newest then, and all others stay as they were.
func TestToldAnew(t *testing.T) {
	for _, cache := range []int{1, 2, 3, 5, 8} {
		for again := range cache {
			for _, keep := range []bool{false, true} {
				p := pairOf(1, 1, cache)
				for n := range cache {
					p.decide(t, 0, uint64(n), n%2 == 0)
				}
				for range 3 {
					p.decide(t, 0, uint64(again), keep)
				}
				for n := range cache {
					wantKnown(t, p.b, 0, uint64(n), n != again && n%2 == 0 || n == again && keep, true)
				}
				for n := range cache { // the oldest goes first, and what was told anew last
					p.decide(t, 1, uint64(n), true)
					if _, is := p.b.Known(0, uint64(again)); is != (n < cache-1) {
						t.Errorf("of %d, told anew %d: known behind %d more: %t", cache, again, n+1, is)
					}
				}
			}
		}
	}
}

// A cache that is not full takes on what is new beside what is told anew.
func TestToldAnewWithRoom(t *testing.T) {
	p := pairOf(1, 1, 3)
	p.decide(t, 0, 1, true)
	p.decide(t, 0, 2, true)
	for range 5 {
		p.decide(t, 0, 1, false)
		p.decide(t, 0, 1, true)
	}
	p.decide(t, 0, 3, false) // three are known: 2, 1, 3
	wantKnown(t, p.b, 0, 2, true, true)
	p.decide(t, 0, 4, false)
	wantKnown(t, p.b, 0, 2, false, false)
	wantKnown(t, p.b, 0, 1, true, true)
	wantKnown(t, p.b, 0, 3, false, true)
	wantKnown(t, p.b, 0, 4, false, true)
	p.decide(t, 0, 2, false) // known no more, it is as a new one
	wantKnown(t, p.b, 0, 1, false, false)
	wantKnown(t, p.b, 0, 2, false, true)
	wantKnown(t, p.b, 0, 3, false, true)
}

// Asked for, told of by Offer, or due, a decision is no newer.
func TestAskedIsNoNewer(t *testing.T) {
	b := tail.New(3, 1, 2)
	wantOffer(t, b, 0, of(0, 1, 1), api.Taken)
	b.Decide(0, 1, true)
	b.Decide(0, 2, false)
	wantKnown(t, b, 0, 1, true, true)
	wantOffer(t, b, 0, of(0, 1, 1), api.After)
	wantDue(t, b, 1, group(of(0, 1, 1)))
	b.Decide(0, 3, false)
	wantKnown(t, b, 0, 1, false, false)
	wantKnown(t, b, 0, 2, false, true)
	wantKnown(t, b, 0, 3, false, true)
}

// Whether any of its spans wait does not matter: they are due as they were, with all others, and what is known stays behind that.
func TestDecideOfWaiting(t *testing.T) {
	for _, keep := range []bool{false, true} {
		p := pairOf(5, 10, 5)
		p.tells(t, 1, full(0, 1, 1), api.Taken)
		p.tells(t, 1, full(0, 2, 2), api.Taken)
		p.tells(t, 2, full(0, 1, 3), api.Taken)
		p.tells(t, 3, full(0, 3, 4), api.Taken)
		p.decide(t, 0, 1, keep)  // spans of it wait
		p.decide(t, 0, 3, !keep) // of it, too
		p.decide(t, 0, 4, keep)  // of it none does
		wantLen(t, p.b, 4)
		wantNext(t, p.b, 11, true)
		wantDue(t, p.b, 10)
		wantDue(t, p.b, 11, group(full(0, 1, 1), full(0, 1, 3)), group(full(0, 2, 2)))
		wantKnown(t, p.b, 0, 1, keep, true)
		wantKnown(t, p.b, 0, 2, false, false)
		wantDue(t, p.b, 13, group(full(0, 3, 4)))
		wantKnown(t, p.b, 0, 3, !keep, true)
		wantKnown(t, p.b, 0, 4, keep, true)
	}
}

// Many decisions, of traces old and new, drawn; the words go through all of them.
func TestDecisionsAsWorded(t *testing.T) {
	known := map[bool]int{}
	drawn(t, 6, 400, func(r *rand.Rand) {
		p := pairOf(1, 1, 1+r.Intn(20))
		few := uint64(1 + r.Intn(30))
		for range r.Intn(100) {
			hi, lo := r.Uint64()%3, r.Uint64()%few
			p.w.decide(hi, lo, r.Intn(2) == 0)
			p.b.Decide(hi, lo, p.w.decided[len(p.w.decided)-1].keep)
			hi, lo = r.Uint64()%3, r.Uint64()%few
			keep, is := p.w.known(hi, lo)
			wantKnown(t, p.b, hi, lo, keep, is)
			known[is]++
		}
		p.look(t)
	})
	if known[true] < 2000 || known[false] < 2000 {
		t.Errorf("what was asked for was known, or not: %v", known)
	}
}

// However many were decided, no more are known than may be.
func TestManyDecisions(t *testing.T) {
	b := tail.New(1, 1, 3)
	for n := range uint64(100000) {
		b.Decide(n%7, n, n%2 == 0)
		b.Decide((n-min(n, 1))%7, n-min(n, 1), n%5 == 0) // the one ahead of it, anew
	}
	for n := range uint64(100000) {
		is := n >= 99997
		if _, got := b.Known(n%7, n); got != is {
			t.Fatalf("Known of %d: %t", n, got)
		}
	}
	wantKnown(t, b, 99998%7, 99998, false, true)
	wantKnown(t, b, 99999%7, 99999, false, true)
	wantKnown(t, b, 99997%7, 99997, false, true)
}
