package tail_test

import (
	"math"
	"testing"

	"telemeter/api"
	"telemeter/tail"
)

// As many spans wait as may, of one trace or of several, and not one more; what was due leaves room for as many.
func TestBusy(t *testing.T) {
	for _, most := range []int{1, 2, 3, 7, 100, 4999, mostSpans} {
		for _, traces := range []int{1, 2, most} {
			b := tail.New(most, 10, 1)
			for round := range 3 {
				now := 10 * round
				for id := range most {
					wantLen(t, b, id)
					wantOffer(t, b, now, of(0, uint64(id%traces), uint64(id)), api.Taken)
				}
				for i := range 3 {
					wantLen(t, b, most)
					wantOffer(t, b, now+i, of(0, 0, 9), api.Busy) // of a trace of which some wait
					wantOffer(t, b, now+i, of(1, 0, 9), api.Busy) // and of one of which none does
				}
				l, e := b.Due(now + 10)
				if count(l) != most || len(l) != min(traces, most) || e != api.OK {
					t.Errorf("of %d, %d traces: %d of %d, %d are due", most, traces, count(l), len(l), e)
				}
				wantLen(t, b, 0)
			}
		}
	}
}

func count(l []api.Group) int {
	n := 0
	for _, g := range l {
		n += len(g.Spans)
	}
	return n
}

// A decision that is known is told, with room and without; the span does not wait then.
func TestOfKnown(t *testing.T) {
	for _, most := range []int{1, 2, 5} {
		for room := range most + 1 {
			p := pairOf(most, 10, 2)
			for id := range most - room {
				p.tells(t, 0, of(0, 1, uint64(id)), api.Taken)
			}
			p.decide(t, 0, 8, true)
			p.decide(t, 0, 9, false)
			for now := range most + 2 {
				p.tells(t, now, full(0, 8, 5), api.After)
				p.tells(t, now, full(0, 9, 5), api.Late)
				wantLen(t, p.b, most-room)
			}
			want := api.Taken
			if room == 0 {
				want = api.Busy
			}
			p.tells(t, 7, of(8, 0, 1), want) // of another trace
			p.due(t, 10)
			p.due(t, 17)
		}
	}
}

func decided(keep bool) uint8 {
	if keep {
		return api.After
	}
	return api.Late
}

// A trace of which spans wait, and whose decision is known: what comes is told of, what waits is due as it was.
func TestOfKnownThatWaits(t *testing.T) {
	for _, keep := range []bool{false, true} {
		p := pairOf(2, 10, 1)
		p.tells(t, 3, full(4, 5, 6), api.Taken)
		p.decide(t, 4, 5, keep)
		p.tells(t, 4, full(4, 5, 7), decided(keep))
		p.tells(t, 5, full(4, 6, 8), api.Taken)
		p.tells(t, 5, full(4, 5, 7), decided(keep)) // no room is left
		wantDue(t, p.b, 12)
		wantNext(t, p.b, 13, true)
		wantDue(t, p.b, 13, group(full(4, 5, 6)))
		p.w.due(13)
		p.tells(t, 13, full(4, 5, 7), decided(keep))
		p.due(t, 15)
	}
}

// A decision that is known no more is told of no more: what comes waits, behind what its trace has waiting.
func TestOfForgotten(t *testing.T) {
	b := tail.New(5, 10, 1)
	wantOffer(t, b, 3, of(0, 1, 1), api.Taken)
	b.Decide(0, 1, true)
	wantOffer(t, b, 4, of(0, 1, 2), api.After)
	b.Decide(0, 2, true)
	wantOffer(t, b, 5, of(0, 1, 3), api.Taken)
	wantNext(t, b, 13, true)
	wantDue(t, b, 13, group(of(0, 1, 1), of(0, 1, 3)))
	wantOffer(t, b, 14, of(0, 1, 4), api.Taken)
	wantNext(t, b, 24, true)
}

// Told anew, the last decision is told of.
func TestOfToldAnew(t *testing.T) {
	b := tail.New(1, 10, 3)
	for i, keep := range []bool{true, true, false, false, true, false} {
		b.Decide(7, 7, keep)
		wantOffer(t, b, i, of(7, 7, 1), decided(keep))
	}
	wantLen(t, b, 0)
}

// Traces are told apart by both of their numbers, in full, and by nothing else.
func TestTracesApart(t *testing.T) {
	numbers := []uint64{0, 1, 2, 1 << 8, 1 << 31, 1 << 32, 1<<32 + 1, 1 << 63, 1<<63 + 1, math.MaxUint64}
	p := pairOf(2*len(numbers)*len(numbers), 10, 1)
	var want []api.Group
	for _, hi := range numbers {
		for _, lo := range numbers {
			p.offer(t, 0, of(hi, lo, 5))
			want = append(want, group(of(hi, lo, 5), full(hi, lo, 8)))
		}
	}
	for _, hi := range numbers {
		for _, lo := range numbers {
			p.offer(t, 1, full(hi, lo, 8))
		}
	}
	wantDue(t, p.b, 10, want...)
}

// Spans that item calls wrong wait as others do: nothing but their trace is looked at.
func TestAnySpans(t *testing.T) {
	text := string(make([]byte, 5000))
	all := []api.Span{
		{}, {Start: 9, End: 3}, {Start: math.MinInt, End: math.MaxInt}, {Start: math.MaxInt, End: math.MinInt}, {Name: text}, {Name: "\xff"},
		{Rv: math.MaxUint64}, {ID: math.MaxUint64, Parent: math.MaxUint64}, {Bad: true}, {Attrs: make([]api.Attr, 1000)},
		{Attrs: []api.Attr{{Key: text, Val: text}, {}, {Key: "k"}, {Key: "k"}}}, {},
	}
	b := tail.New(len(all), 1, 1)
	for _, s := range all {
		wantOffer(t, b, 0, s, api.Taken)
	}
	wantDue(t, b, 1, group(all...))
}
