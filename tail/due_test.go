package tail_test

import (
	"math/rand"
	"slices"
	"testing"

	"telemeter/api"
	"telemeter/tail"
)

// Just at now + wait a trace is due, and behind that, however far, but not ahead of it.
func TestDueAt(t *testing.T) {
	for _, wait := range []int{1, 2, 10, 1 << 20, 1 << 32, 1 << 39} {
		for _, now := range []int{0, 1, 9, 1 << 20, 1 << 38} {
			at := now + wait
			for _, asked := range []int{now, now + wait/2, at - 1, at, at + 1, at + 1000, mostTime - 1, mostTime} {
				b := tail.New(3, wait, 1)
				wantOffer(t, b, now, of(0, 1, 1), api.Taken)
				wantNext(t, b, at, true)
				if asked < at {
					wantDue(t, b, asked)
					wantLen(t, b, 1)
					wantNext(t, b, at, true)
					wantDue(t, b, at, group(of(0, 1, 1)))
					continue
				}
				wantDue(t, b, asked, group(of(0, 1, 1)))
				wantLen(t, b, 0)
				wantNext(t, b, 0, false)
				wantDue(t, b, asked) // again, at the same time
			}
		}
	}
}

// A trace is due by its first span: those behind it do not put it off.
func TestDueByFirst(t *testing.T) {
	p := pairOf(10, 10, 1)
	for id, now := range []int{3, 3, 4, 9, 12} {
		p.offer(t, now, full(0, 1, uint64(id)))
		wantNext(t, p.b, 13, true)
	}
	wantDue(t, p.b, 13, group(full(0, 1, 0), full(0, 1, 1), full(0, 1, 2), full(0, 1, 3), full(0, 1, 4)))
	wantOffer(t, p.b, 13, full(0, 1, 5), api.Taken) // it begins anew
	wantNext(t, p.b, 23, true)
	wantDue(t, p.b, 22)
	wantDue(t, p.b, 23, group(full(0, 1, 5)))
}

// At one time several are due, in the order in which their first ones came: not by what traces they are, nor by the last ones.
func TestDueAtOneTime(t *testing.T) {
	b := tail.New(10, 5, 1)
	for id, lo := range []uint64{5, 1, 9, 3, 9, 3, 1, 5, 0} {
		wantOffer(t, b, 2, of(lo%2, lo, uint64(id)), api.Taken)
	}
	wantDue(t, b, 6)
	wantDue(t, b, 7, group(of(1, 5, 0), of(1, 5, 7)), group(of(1, 1, 1), of(1, 1, 6)), group(of(1, 9, 2), of(1, 9, 4)), group(of(1, 3, 3), of(1, 3, 5)), group(of(0, 0, 8)))
	wantLen(t, b, 0)
}

// Of several times, those that are due come out, by their times; all others wait on.
func TestDueAtSeveralTimes(t *testing.T) {
	b := tail.New(10, 5, 1)
	for id, lo := range []uint64{8, 7, 6, 7, 5, 4} {
		wantOffer(t, b, id, of(0, lo, uint64(id)), api.Taken)
	}
	wantNext(t, b, 5, true)
	wantDue(t, b, 6, group(of(0, 8, 0)), group(of(0, 7, 1), of(0, 7, 3)))
	wantLen(t, b, 3)
	wantNext(t, b, 7, true)
	wantDue(t, b, 6)
	wantOffer(t, b, 6, of(0, 8, 6), api.Taken)
	wantDue(t, b, 8, group(of(0, 6, 2)))
	wantNext(t, b, 9, true)
	wantDue(t, b, 100, group(of(0, 5, 4)), group(of(0, 4, 5)), group(of(0, 8, 6)))
	wantLen(t, b, 0)
	wantNext(t, b, 0, false)
	wantDue(t, b, 100)
}

// A trace that was due and comes again has a new number: at one time it is behind those that came ahead of it.
func TestComesAgain(t *testing.T) {
	b := tail.New(10, 5, 1)
	wantOffer(t, b, 0, of(0, 1, 1), api.Taken)
	wantOffer(t, b, 0, of(0, 2, 2), api.Taken)
	wantDue(t, b, 5, group(of(0, 1, 1)), group(of(0, 2, 2)))
	for id, lo := range []uint64{2, 3, 1, 2} {
		wantOffer(t, b, 5, of(0, lo, uint64(id)), api.Taken)
	}
	wantNext(t, b, 10, true)
	wantDue(t, b, 9)
	wantDue(t, b, 10, group(of(0, 2, 0), of(0, 2, 3)), group(of(0, 3, 1)), group(of(0, 1, 2)))
}

// Many traces come at one time, many times over: their numbers go on, with a digit more too.
func TestNumbersGoOn(t *testing.T) {
	p := pairOf(300, 1, 1)
	r := rand.New(rand.NewSource(3))
	for now := range 300 {
		var want []api.Group
		for _, lo := range r.Perm(1 + now) {
			wantOffer(t, p.b, now, of(0, uint64(lo), 1), api.Taken)
			want = append(want, group(of(0, uint64(lo), 1)))
		}
		wantDue(t, p.b, now+1, want...)
	}
}

// Each span comes out with all that it has, in its place among those of its trace, whatever comes between.
func TestSpansInOrder(t *testing.T) {
	p := pairOf(100, 10, 1)
	ids := map[uint64][]api.Span{}
	for id := range uint64(100) {
		lo := id * id % 7
		p.offer(t, int(id/15), full(lo, lo, id))
		ids[lo] = append(ids[lo], full(lo, lo, id))
	}
	l, e := p.b.Due(30)
	if len(l) != len(ids) || e != api.OK {
		t.Fatalf("Due: %d traces, %d", len(l), e)
	}
	for _, g := range l {
		if !sameGroup(g, group(ids[g.Lo]...)) {
			t.Errorf("of %d: %s; want %s", g.Lo, short(g.Spans), short(ids[g.Lo]))
		}
	}
}

// As many as may wait, each of a trace of its own, and all of one.
func TestGreatBuffer(t *testing.T) {
	b := tail.New(mostSpans, 7, mostSpans)
	r := rand.New(rand.NewSource(4))
	for round := range 3 {
		now := round * 1000
		var want []api.Group
		for _, n := range r.Perm(mostSpans) {
			s := full(uint64(n%3), uint64(n), uint64(n))
			wantOffer(t, b, now, s, api.Taken)
			want = append(want, group(s))
		}
		wantOffer(t, b, now, of(9, 9, 9), api.Busy)
		wantLen(t, b, mostSpans)
		wantNext(t, b, now+7, true)
		wantDue(t, b, now+6)
		wantDue(t, b, now+7, want...)
		wantLen(t, b, 0)
		one := make([]api.Span, mostSpans)
		for i := range one {
			one[i] = full(7, 7, uint64(i))
			wantOffer(t, b, now+8, one[i], api.Taken)
		}
		wantOffer(t, b, now+8, of(7, 7, 9), api.Busy)
		wantDue(t, b, now+15, group(one...))
	}
}

// Rows of calls, drawn, against the plain list.
func TestAsWorded(t *testing.T) {
	tells := map[uint8]int{}
	groups := 0
	drawn(t, 1, 1500, func(r *rand.Rand) {
		p := pairOf(1+r.Intn(8), 1+r.Intn(12), 1+r.Intn(4))
		now, few := 0, uint64(1+r.Intn(6))
		for id := range uint64(r.Intn(120)) {
			now += max(0, r.Intn(8)-5)
			asked := now
			if r.Intn(15) == 0 {
				asked += r.Intn(7) - 3
			}
			hi, lo := r.Uint64()%2, r.Uint64()%few
			switch r.Intn(8) {
			case 0:
				p.decide(t, hi, lo, r.Intn(2) == 0)
			case 1:
				groups += len(p.due(t, asked))
			default:
				tells[p.offer(t, asked, full(hi, lo, id))]++
			}
			now = max(now, p.w.now)
		}
	})
	if groups < 2000 || slices.Min([]int{tells[0], tells[api.Taken], tells[api.Busy], tells[api.Late], tells[api.After]}) < 1000 {
		t.Errorf("what was drawn: %v, %d groups", tells, groups)
	}
}

// What holds: each span that was taken comes out by Due, once, and no other one does.
func TestEachOnce(t *testing.T) {
	taken := 0
	drawn(t, 2, 300, func(r *rand.Rand) {
		wait := 1 + r.Intn(30)
		b := tail.New(1+r.Intn(40), wait, 1+r.Intn(5))
		waits := map[uint64]bool{} // by the span's ID
		now := 0
		due := func() {
			l, _ := b.Due(now)
			for _, g := range l {
				for _, s := range g.Spans {
					if !waits[s.ID] || !sameSpan(s, full(g.Hi, g.Lo, s.ID)) {
						t.Errorf("due at %d: %s of (%d, %d); it waits: %t", now, short(s), g.Hi, g.Lo, waits[s.ID])
					}
					delete(waits, s.ID)
				}
			}
		}
		for id := range uint64(400) {
			now += r.Intn(2)
			lo := r.Uint64() % 20
			if told, _ := b.Offer(now, full(lo/7, lo, id)); told == api.Taken {
				waits[id] = true
				taken++
			}
			if r.Intn(9) == 0 {
				b.Decide(lo/7, lo, id%2 == 0)
			}
			if r.Intn(6) == 0 {
				due()
			}
			wantLen(t, b, len(waits))
		}
		now += wait
		due()
		if len(waits) != 0 {
			t.Errorf("%d did not come out", len(waits))
		}
	})
	if taken < 10000 {
		t.Errorf("%d were taken", taken)
	}
}
