package tail_test

import (
	"math/rand"
	"reflect"
	"runtime"
	"slices"
	"strings"
	"testing"

	"telemeter/api"
	"telemeter/tail"
)

// R2: what is handed in is neither changed nor kept, what comes out is new memory, and what stands behind a list's length counts for nothing.

// spoil writes over all that a list of groups has.
func spoil(l []api.Group) {
	for i := range l {
		for j := range l[i].Spans {
			spoilSpan(&l[i].Spans[j])
		}
		l[i] = api.Group{Hi: 99, Lo: 99, Spans: append(l[i].Spans, of(98, 98, 98), of(97, 97, 97))}
	}
}

func spoilSpan(s *api.Span) {
	for k := range s.Attrs {
		s.Attrs[k] = api.Attr{Key: "spoilt", Val: "spoilt"}
	}
	*s = api.Span{Hi: 96, Lo: 96, Name: "spoilt", Attrs: append(s.Attrs, api.Attr{Key: "spoilt"})}
}

// laid is a span whose attributes have others behind their length.
func laid(s api.Span) api.Span {
	s.Attrs = append(slices.Clone(s.Attrs), api.Attr{Key: "behind", Val: "one"}, api.Attr{Key: "behind", Val: "two"})[:len(s.Attrs)]
	return s
}

// whole is a span's copy, with what stands behind its attributes.
func whole(s api.Span) api.Span {
	s.Attrs = slices.Clone(s.Attrs[:cap(s.Attrs)])
	return s
}

// Whatever Offer tells, the span that was handed in is as it was.
func TestOfferChangesNothing(t *testing.T) {
	p := pairOf(3, 10, 3)
	p.decide(t, 0, 8, true)
	p.decide(t, 0, 9, false)
	for id := range uint64(9) {
		for _, lo := range []uint64{1, 2, 8, 9} {
			for _, now := range []int{int(id), -1} {
				s := laid(full(0, lo, id))
				want := whole(s)
				p.offer(t, now, s)
				if got := whole(s); !reflect.DeepEqual(got, want) {
					t.Errorf("Offer changed a span to %s; it was %s", short(got), short(want))
				}
			}
		}
	}
}

// What is written over a span that was handed in, or behind its attributes, is not in what comes out.
func TestOfferKeepsNothing(t *testing.T) {
	var want []api.Span
	b := tail.New(20, 10, 1)
	for id := range uint64(18) {
		s := laid(full(0, 1, id))
		want = append(want, full(0, 1, id))
		wantOffer(t, b, 0, s, api.Taken)
		spoilSpan(&s)
	}
	shared := []api.Attr{{Key: "a"}, {Key: "b"}}
	for _, n := range []int{1, 2} { // two that share their attributes
		wantOffer(t, b, 0, api.Span{Lo: 1, Attrs: shared[:n]}, api.Taken)
		want = append(want, api.Span{Lo: 1, Attrs: slices.Clone(shared[:n])})
	}
	shared[0].Key = "spoilt"
	wantDue(t, b, 10, group(want...))
}

// Nothing lies behind the length of what Due tells.
func TestNothingLiesBehind(t *testing.T) {
	for _, n := range []int{1, 2, 3, 5, 6, 7, 9, 17, 33, 100} {
		b := tail.New(mostSpans, 1, 1)
		for lo := range n {
			for id := range n {
				s := full(0, uint64(lo), uint64(id))
				s.Attrs = make([]api.Attr, id%20)
				b.Offer(0, s)
			}
		}
		l, _ := b.Due(1)
		if count(l) != min(n*n, mostSpans) {
			t.Fatalf("%d are due of %d", count(l), n*n)
		}
		if cap(l) != len(l) {
			t.Errorf("%d lie behind %d traces", cap(l)-len(l), len(l))
		}
		for _, g := range l {
			if cap(g.Spans) != len(g.Spans) {
				t.Errorf("%d lie behind %d spans", cap(g.Spans)-len(g.Spans), len(g.Spans))
			}
			for _, s := range g.Spans {
				if cap(s.Attrs) != len(s.Attrs) {
					t.Errorf("%d lie behind %d attributes", cap(s.Attrs)-len(s.Attrs), len(s.Attrs))
				}
			}
		}
	}
}

// No two lists of one answer share any: what is written over one, or appended to it, is not in another.
func TestListsAreApart(t *testing.T) {
	for i := range 12 {
		b := tail.New(20, 1, 1)
		attrs := full(0, 0, 8).Attrs
		for id := range uint64(12) {
			b.Offer(0, api.Span{Lo: id % 4, ID: id, Attrs: attrs})
		}
		l, _ := b.Due(1)
		s := &l[i%4].Spans[i/4]
		spoilSpan(s)
		l[i%4].Spans = append(l[i%4].Spans, of(9, 9, 9))
		for id := range uint64(12) {
			want := api.Span{Lo: id % 4, ID: id, Attrs: full(0, 0, 8).Attrs}
			if got := l[id%4].Spans[id/4]; int(id) != i && !sameSpan(got, want) {
				t.Errorf("%d spoilt: %s; want %s", i, short(got), short(want))
			}
		}
	}
}

// What is written over an answer is neither in what waits, nor in what comes then, nor in another answer.
func TestAnswersAreApart(t *testing.T) {
	drawn(t, 7, 300, func(r *rand.Rand) {
		p := pairOf(1+r.Intn(30), 1+r.Intn(5), 2)
		var before, beforeWant []api.Group
		now := 0
		for id := range uint64(60) {
			s := laid(full(0, r.Uint64()%4, id))
			p.offer(t, now, s)
			spoilSpan(&s)
			if r.Intn(3) > 0 {
				continue
			}
			now += r.Intn(3)
			want, _ := p.w.due(now)
			got, _ := p.b.Due(now)
			if !sameGroups(got, want) {
				t.Fatalf("Due(%d): %s; want %s", now, short(got), short(want))
			}
			if r.Intn(2) == 0 {
				spoil(got)
				continue
			}
			if !sameGroups(before, beforeWant) {
				t.Fatalf("an answer became %s; it was %s", short(before), short(beforeWant))
			}
			before, beforeWant = got, want
		}
		p.look(t)
	})
}

// held is how many bytes are held at all.
func held() uint64 {
	var m runtime.MemStats
	runtime.GC()
	runtime.ReadMemStats(&m)
	return m.HeapAlloc
}

// What came out is held no more, nor what was known once, nor what was told off: of 100 million bytes of names next to none are left.
func TestNoMoreIsHeld(t *testing.T) {
	b := tail.New(2, 1, 3)
	before := held()
	for now := range 10000 {
		s := of(uint64(now%3), uint64(now), 1)
		s.Name = strings.Repeat("x", 10000)
		b.Due(now)
		for _, want := range []uint8{api.Taken, api.Taken, api.Busy} {
			wantOffer(t, b, now, s, want)
		}
		b.Decide(s.Hi, s.Lo, true)
		wantOffer(t, b, now, s, api.After)
	}
	if after := held(); after > before+10000000 {
		t.Errorf("%d bytes more are held", after-before)
	}
	wantLen(t, b, 2)
}
