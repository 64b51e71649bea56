package tail_test

import (
	"fmt"
	"math"
	"math/rand"
	"reflect"
	"slices"
	"sort"
	"strings"
	"testing"

	"telemeter/api"
	"telemeter/tail"
)

// What the chapter words, written another way than the program is: the tests hold one against the other.

const (
	mostSpans = 5000
	mostTime  = 1099511627776 // 2^40
)

// one is a span that waits: when its trace is due, and its trace's number.
type one struct {
	span   api.Span
	at, no int
}

// told is a decision.
type told struct {
	hi, lo uint64
	keep   bool
}

// byWords is a plain list of the spans that wait, in the order in which they came, and one of all that was ever decided.
type byWords struct {
	spans, wait, cache int
	now, traces        int
	list               []one
	decided            []told
}

// known goes back through all decisions, till it has seen as many traces as are known.
func (w *byWords) known(hi, lo uint64) (keep, is bool) {
	seen := map[string]bool{}
	for i := len(w.decided) - 1; i >= 0; i-- {
		d := w.decided[i]
		seen[fmt.Sprint(d.hi, " ", d.lo)] = true
		if len(seen) > w.cache {
			break
		}
		if d.hi == hi && d.lo == lo {
			return d.keep, true
		}
	}
	return false, false
}

func (w *byWords) decide(hi, lo uint64, keep bool) {
	w.decided = append(w.decided, told{hi, lo, keep})
}

func (w *byWords) reach(now int) bool {
	is := !(now < w.now) && !(now > mostTime)
	if is {
		w.now = now
	}
	return is
}

func (w *byWords) offer(now int, s api.Span) (uint8, api.Errno) {
	if !w.reach(now) {
		return 0, 60
	}
	keep, is := w.known(s.Hi, s.Lo)
	if is && keep {
		return 4, 0
	}
	if is {
		return 3, 0
	}
	if len(w.list) >= w.spans {
		return 2, 0
	}
	x := one{apart(s), now + w.wait, w.traces}
	first := slices.IndexFunc(w.list, func(o one) bool { return o.span.Hi == s.Hi && o.span.Lo == s.Lo })
	if first < 0 {
		w.traces++
	} else {
		x.at, x.no = w.list[first].at, w.list[first].no
	}
	w.list = append(w.list, x)
	return 1, 0
}

// due goes through all numbers that traces had, by the times at which they are due.
func (w *byWords) due(now int) ([]api.Group, api.Errno) {
	if !w.reach(now) {
		return nil, 60
	}
	var out, left []one
	for _, x := range w.list {
		if x.at > now {
			left = append(left, x)
		} else {
			out = append(out, x)
		}
	}
	sort.SliceStable(out, func(i, j int) bool { return out[i].no < out[j].no })
	sort.SliceStable(out, func(i, j int) bool { return out[i].at < out[j].at })
	var all []api.Group
	for i, x := range out {
		if i == 0 || out[i-1].no != x.no {
			all = append(all, api.Group{Hi: x.span.Hi, Lo: x.span.Lo})
		}
		g := &all[len(all)-1]
		g.Spans = append(g.Spans, x.span)
	}
	w.list = left
	return all, 0
}

func (w *byWords) next() (int, bool) {
	if len(w.list) == 0 {
		return 0, false
	}
	at := math.MaxInt
	for _, x := range w.list {
		at = min(at, x.at)
	}
	return at, true
}

// apart is the same span, and shares nothing with it.
func apart(s api.Span) api.Span {
	s.Attrs = append([]api.Attr(nil), s.Attrs...)
	return s
}

func sameSpan(a, b api.Span) bool {
	attrs := slices.Equal(a.Attrs, b.Attrs)
	a.Attrs, b.Attrs = nil, nil
	return attrs && reflect.DeepEqual(a, b)
}

func sameGroup(a, b api.Group) bool {
	return a.Hi == b.Hi && a.Lo == b.Lo && slices.EqualFunc(a.Spans, b.Spans, sameSpan)
}

func sameGroups(a, b []api.Group) bool {
	return slices.EqualFunc(a, b, sameGroup)
}

// pair is a buffer, and what the words have it hold.
type pair struct {
	b *tail.Buffer
	w *byWords
}

func pairOf(spans, wait, cache int) *pair {
	return &pair{tail.New(spans, wait, cache), &byWords{spans: spans, wait: wait, cache: cache}}
}

// offer asks both, and tells what was told.
func (p *pair) offer(t *testing.T, now int, s api.Span) uint8 {
	t.Helper()
	want, wanted := p.w.offer(now, s)
	got, e := p.b.Offer(now, s)
	if got != want || e != wanted {
		t.Fatalf("Offer(%d, %s): %d, %d; want %d, %d", now, short(s), got, e, want, wanted)
	}
	p.look(t)
	return got
}

// tells is offer of what is written out, too.
func (p *pair) tells(t *testing.T, now int, s api.Span, want uint8) {
	t.Helper()
	if got := p.offer(t, now, s); got != want {
		t.Errorf("Offer(%d, %s): %d; want %d", now, short(s), got, want)
	}
}

func (p *pair) due(t *testing.T, now int) []api.Group {
	t.Helper()
	want, wanted := p.w.due(now)
	got, e := p.b.Due(now)
	if !sameGroups(got, want) || e != wanted {
		t.Fatalf("Due(%d): %s, %d; want %s, %d", now, short(got), e, short(want), wanted)
	}
	p.look(t)
	return got
}

func (p *pair) decide(t *testing.T, hi, lo uint64, keep bool) {
	t.Helper()
	p.w.decide(hi, lo, keep)
	p.b.Decide(hi, lo, keep)
	p.look(t)
}

// look asks for what changes nothing.
func (p *pair) look(t *testing.T) {
	t.Helper()
	wantLen(t, p.b, len(p.w.list))
	at, is := p.w.next()
	wantNext(t, p.b, at, is)
	asked := []told{{}, {1, 0, false}, {0, 1, false}, {math.MaxUint64, math.MaxUint64, false}}
	for _, x := range p.w.list {
		asked = append(asked, told{hi: x.span.Hi, lo: x.span.Lo})
	}
	for _, d := range append(asked, p.w.decided...) {
		keep, is := p.w.known(d.hi, d.lo)
		wantKnown(t, p.b, d.hi, d.lo, keep, is)
	}
}

// short is a text of what may be long.
func short(x any) string {
	return fmt.Sprintf("%.300s", fmt.Sprintf("%+v", x))
}

func wantOffer(t *testing.T, b *tail.Buffer, now int, s api.Span, want uint8) {
	t.Helper()
	if got, e := b.Offer(now, s); got != want || e != api.OK {
		t.Errorf("Offer(%d, %s): %d, %d; want %d, 0", now, short(s), got, e, want)
	}
}

func wantDue(t *testing.T, b *tail.Buffer, now int, want ...api.Group) {
	t.Helper()
	if got, e := b.Due(now); !sameGroups(got, want) || e != api.OK {
		t.Errorf("Due(%d): %s, %d; want %s, 0", now, short(got), e, short(want))
	}
}

// wantErrTime asks Offer, of several traces, and Due.
func wantErrTime(t *testing.T, b *tail.Buffer, now int) {
	t.Helper()
	for _, s := range []api.Span{{}, {Lo: 1}, {Hi: 1}, full(9, 9, 9)} {
		if got, e := b.Offer(now, s); got != 0 || e != api.ErrTime {
			t.Errorf("Offer(%d, %s): %d, %d; want 0, 60", now, short(s), got, e)
		}
	}
	if l, e := b.Due(now); len(l) != 0 || e != api.ErrTime {
		t.Errorf("Due(%d): %s, %d; want nothing, 60", now, short(l), e)
	}
}

func wantKnown(t *testing.T, b *tail.Buffer, hi, lo uint64, keep, is bool) {
	t.Helper()
	if k, i := b.Known(hi, lo); k != keep || i != is {
		t.Errorf("Known(%d, %d): %t, %t; want %t, %t", hi, lo, k, i, keep, is)
	}
}

func wantLen(t *testing.T, b *tail.Buffer, want int) {
	t.Helper()
	if got := b.Len(); got != want {
		t.Errorf("Len: %d; want %d", got, want)
	}
}

func wantNext(t *testing.T, b *tail.Buffer, at int, is bool) {
	t.Helper()
	if a, i := b.Next(); a != at || i != is {
		t.Errorf("Next: %d, %t; want %d, %t", a, i, at, is)
	}
}

// of is a span of such a trace, that has an ID of its own.
func of(hi, lo, id uint64) api.Span {
	return api.Span{Hi: hi, Lo: lo, ID: id}
}

// full is one that has all that a span may have, by its ID.
func full(hi, lo, id uint64) api.Span {
	s := api.Span{Hi: hi, Lo: lo, ID: id, Parent: id + 1, Name: fmt.Sprint("name ", id), Start: int(id) + 2, End: int(id) + 3, Bad: id%2 == 0, Rv: id + 4}
	for i := range id % 9 {
		s.Attrs = append(s.Attrs, api.Attr{Key: fmt.Sprint("key ", id, i), Val: strings.Repeat("v", int(i))})
	}
	return s
}

// group has these spans of one trace.
func group(l ...api.Span) api.Group {
	return api.Group{Hi: l[0].Hi, Lo: l[0].Lo, Spans: l}
}

// edges are the least and the greatest numbers, and those about which the chapter's words turn.
func edges() []int {
	return []int{
		math.MinInt, math.MinInt + 1, -1 << 40, -5000, -2, -1, 0, 1, 2, 4999, 5000, 5001, math.MaxInt32, math.MaxInt32 + 1,
		1<<40 - 2, 1<<40 - 1, 1 << 40, 1<<40 + 1, 1<<40 + 2, 1 << 41, math.MaxInt - 1, math.MaxInt,
	}
}

// drawn stops when something has failed: much more would be told of the same fault.
func drawn(t *testing.T, seed int64, times int, f func(r *rand.Rand)) {
	r := rand.New(rand.NewSource(seed))
	for i := 0; i < times && !t.Failed(); i++ {
		f(r)
	}
}
