package policy_test

import (
	"math/rand"
	"reflect"
	"slices"
	"testing"

	"telemeter/api"
	"telemeter/policy"
)

// no is a rule that does not hold of fullSpans, yes one that does.
func no() api.Rule  { return many(4) }
func yes() api.Rule { return many(3) }

func TestAllOfNone(t *testing.T) {
	for _, l := range [][]api.Rule{nil, {}, []api.Rule{no()}[:0]} {
		wantAll(t, l, nil, 0, true)
		wantAll(t, l, spans(2), whole-1, true)
		wantAll(t, l, fullSpans(), 1<<63, true)
	}
}

func TestAll(t *testing.T) {
	for _, c := range []struct {
		l    []api.Rule
		want bool
	}{
		{[]api.Rule{yes()}, true}, {[]api.Rule{no()}, false},
		{[]api.Rule{yes(), yes()}, true}, {[]api.Rule{yes(), no()}, false}, {[]api.Rule{no(), yes()}, false}, {[]api.Rule{no(), no()}, false},
		{[]api.Rule{slow(997), wrong(), has("k", "v"), many(3), share(50)}, true}, // one of each kind
		{[]api.Rule{slow(998), wrong(), has("k", "v"), many(3), share(50)}, false},
		{[]api.Rule{slow(997), {Kind: 0}, has("k", "v"), many(3), share(50)}, false},
		{[]api.Rule{slow(997), wrong(), has("k", "w"), many(3), share(50)}, false},
		{[]api.Rule{slow(997), wrong(), has("k", "v"), many(4), share(50)}, false},
		{[]api.Rule{slow(997), wrong(), has("k", "v"), many(3), share(51)}, false},
		{[]api.Rule{{}}, false}, {[]api.Rule{yes(), {Kind: 6}}, false},
		{[]api.Rule{yes(), no()}[:1], true},
	} {
		wantAll(t, c.l, fullSpans(), 50, c.want)
	}
	for _, n := range []int{1, 2, 20, 21, 1000} { // of more than may be, too
		l := slices.Repeat([]api.Rule{yes()}, n)
		wantAll(t, l, fullSpans(), 0, true)
		for _, place := range []int{0, n / 2, n - 1} {
			x := slices.Clone(l)
			x[place] = no()
			wantAll(t, x, fullSpans(), 0, false)
		}
	}
}

func TestWhich(t *testing.T) {
	all, none, most := []api.Rule{yes(), wrong()}, []api.Rule{no()}, []api.Rule{yes(), yes(), no()}
	for _, c := range []struct {
		l    [][]api.Rule
		want int
	}{
		{nil, -1}, {[][]api.Rule{}, -1}, {[][]api.Rule{all}[:0], -1},
		{[][]api.Rule{all}, 0}, {[][]api.Rule{none}, -1}, {[][]api.Rule{most}, -1},
		{[][]api.Rule{all, all}, 0}, {[][]api.Rule{none, all, all}, 1}, // two hold: the first one
		{[][]api.Rule{none, all}, 1}, {[][]api.Rule{all, none}, 0}, {[][]api.Rule{none, none}, -1},
		{[][]api.Rule{most, all}, 1}, {[][]api.Rule{all, most}, 0}, {[][]api.Rule{most, none, most}, -1}, // all but one of a row hold
		{[][]api.Rule{{no(), yes(), yes()}, {yes(), no(), yes()}, most, {yes(), yes(), yes()}}, 3},
		{[][]api.Rule{nil}, 0}, {[][]api.Rule{{}}, 0}, {[][]api.Rule{none, nil}, 1}, {[][]api.Rule{nil, all}, 0}, // a row of no rules
		{[][]api.Rule{most, {}, all}, 1}, {[][]api.Rule{none, []api.Rule{yes()}[:0]}, 1},
		{[][]api.Rule{none, all}[:1], -1},
	} {
		wantWhich(t, c.l, fullSpans(), 0, c.want)
	}
	wantWhich(t, [][]api.Rule{{wrong()}, {many(0)}}, nil, 0, 1) // of no spans
	wantWhich(t, [][]api.Rule{{slow(0)}, {wrong()}, {has("", "")}, {many(1)}, {share(1)}}, nil, 0, -1)
	wantWhich(t, [][]api.Rule{{share(9)}, {share(8)}, {share(7)}}, nil, 8, 1)
	for _, n := range []int{1, 2, 20, 21, 1000} { // of more than may be, too
		l := slices.Repeat([][]api.Rule{none}, n)
		wantWhich(t, l, fullSpans(), 0, -1)
		for _, place := range []int{n - 1, n / 2, 0} {
			l[place] = all
			wantWhich(t, l, fullSpans(), 0, place)
		}
	}
}

func TestAllAndWhichAsWorded(t *testing.T) {
	alls, places := map[bool]int{}, map[int]int{}
	drawn(t, 8, 50000, func(r *rand.Rand) {
		l, s, number := anyRows(r), anySpans(r), anyNumber(r)
		want := whichByWords(l, s, number)
		places[want]++
		wantWhich(t, l, s, number, want)
		for _, x := range l {
			want := allByWords(x, s, number)
			alls[want]++
			wantAll(t, x, s, number, want)
		}
	})
	if alls[true] < 5000 || alls[false] < 5000 || places[-1] < 1000 || places[0] < 1000 || places[1] < 1000 || places[2] < 1000 {
		t.Errorf("what was drawn: %v; %v", alls, places)
	}
}

// filled lays a list ahead of something that stands behind its length, where nothing looks.
func filled[T any](l []T, behind ...T) []T {
	return append(slices.Clone(l), behind...)[:len(l)]
}

// R2: what stands behind a list's length does not count.
func TestBehindLists(t *testing.T) {
	far := api.Span{Start: -9, End: 9999, Bad: true, Attrs: []api.Attr{{Key: "k", Val: "v"}}}
	one := with("k", "w")
	one.Attrs = filled(one.Attrs, api.Attr{Key: "k", Val: "v"})
	l := filled([]api.Span{one}, far, far)
	wantLength(t, l, 0)
	for _, r := range []api.Rule{slow(1), wrong(), has("k", "v"), many(2)} {
		wantHolds(t, r, l, 0, false)
		wantHolds(t, r, filled(nil, far), 0, false)
	}
	wantAll(t, filled([]api.Rule{many(1)}, wrong()), l, 0, true)
	rows := filled([][]api.Rule{{wrong()}, filled([]api.Rule{many(1)}, wrong())}, nil)
	wantWhich(t, rows, l, 0, 1)
	wantWhich(t, rows[:1], l, 0, -1)
	wantRight(t, rows, true)
	wantRight(t, rows[:1], true)
	wantRight(t, filled([][]api.Rule{filled([]api.Rule{wrong()}, api.Rule{})}, nil), true)
	wantRight(t, filled(nil, []api.Rule{{}}), true)
}

// copyOf shares nothing with those lists, and has what stands behind their length, too.
func copyOf(rows [][]api.Rule, l []api.Span) ([][]api.Rule, []api.Span) {
	rows, l = slices.Clone(rows[:cap(rows)]), slices.Clone(l[:cap(l)])
	for i, x := range rows {
		rows[i] = slices.Clone(x[:cap(x)])
	}
	for i, s := range l {
		l[i].Attrs = slices.Clone(s.Attrs[:cap(s.Attrs)])
	}
	return rows, l
}

// calls are all of the chapter of those rows and spans, each once, and of each row and rule of them.
func calls(rows [][]api.Rule, l []api.Span, number uint64) []func() any {
	all := []func() any{
		func() any { return policy.Right(rows) },
		func() any { return policy.Length(l) },
		func() any { return policy.Which(rows, l, number) },
	}
	for _, x := range rows {
		all = append(all, func() any { return policy.All(x, l, number) })
		for _, rule := range x {
			all = append(all, func() any { return policy.Holds(rule, l, number) })
		}
	}
	return all
}

// R2: no call changes what it was given, nor what stands behind it; each answers the same when it is asked again.
func TestNothingIsChanged(t *testing.T) {
	drawn(t, 9, 2000, func(r *rand.Rand) {
		rows, l, number := anyRows(r), anySpans(r), anyNumber(r)
		for i := range l {
			l[i].Attrs = filled(l[i].Attrs, api.Attr{Key: "behind", Val: "behind"})
		}
		for i := range rows {
			rows[i] = filled(rows[i], anyRule(r))
		}
		rows, l = filled(rows, anyRules(r)), filled(l, anySpan(r))
		wantRows, wantSpans := copyOf(rows, l)
		var first []any
		for _, call := range calls(rows, l, number) {
			first = append(first, call())
			if gotRows, gotSpans := copyOf(rows, l); !reflect.DeepEqual(gotRows, wantRows) || !reflect.DeepEqual(gotSpans, wantSpans) {
				t.Fatalf("changed: %s, %s; they were %s, %s", short(gotRows), short(gotSpans), short(wantRows), short(wantSpans))
			}
		}
		for i, call := range calls(rows, l, number) {
			if again := call(); again != first[i] {
				t.Errorf("call %d of %s, %s: %v, and again: %v", i, short(rows), short(l), first[i], again)
			}
		}
	})
}

// What holds, of rows: with more spans the first that holds is the same one, or one ahead of it.
func TestRowsOfMoreSpans(t *testing.T) {
	drawn(t, 10, 20000, func(r *rand.Rand) {
		rows, number := anyRows(r), anyNumber(r)
		var l []api.Span
		for range 6 {
			more := slices.Insert(slices.Clone(l), r.Intn(len(l)+1), nearSpan(r))
			was, is := policy.Which(rows, l, number), policy.Which(rows, more, number)
			if was >= 0 && (is < 0 || is > was) {
				t.Errorf("Which(%v): %d of %v, %d of %v", rows, was, l, is, more)
			}
			for _, x := range rows {
				if policy.All(x, l, number) && !policy.All(x, more, number) {
					t.Errorf("All(%v) of %v, and not of %v", x, l, more)
				}
			}
			l = more
		}
	})
}
