package policy_test

import (
	"math"
	"math/rand"
	"slices"
	"testing"

	"telemeter/api"
	"telemeter/policy"
	"telemeter/prob"
)

func TestExample(t *testing.T) {
	l := []api.Span{times(3, 9), times(5, 12)}
	wantLength(t, l, 9)
	wantHolds(t, slow(9), l, 0, true)
	wantHolds(t, slow(10), l, 0, false)
}

func TestSlow(t *testing.T) {
	for _, l := range [][]api.Span{
		{times(0, 0)}, {times(3, 9)}, {times(3, 9), times(5, 12)}, {times(5, 12), times(3, 9)}, {times(9, 3)}, {times(-7, 5), {}},
		{times(0, math.MaxInt-1)}, {times(math.MinInt+1, -1)}, {times(math.MinInt, math.MaxInt)}, {times(math.MaxInt, math.MinInt), times(math.MaxInt, 9)},
	} {
		length := lengthByWords(l)
		wantHolds(t, slow(length), l, 0, true)
		wantHolds(t, slow(length-1), l, 0, true)
		wantHolds(t, slow(length+1), l, 0, false)
		wantHolds(t, slow(math.MinInt), l, 0, true)
		wantHolds(t, slow(math.MaxInt), l, 0, false)
	}
	wantHolds(t, slow(0), []api.Span{times(5, 5)}, 0, true)
	wantHolds(t, slow(0), []api.Span{times(6, 5)}, 0, false)
	wantHolds(t, slow(-1), []api.Span{times(6, 5)}, 0, true)
	wantHolds(t, slow(math.MaxInt), []api.Span{times(0, math.MaxInt)}, 0, true)
	wantHolds(t, slow(math.MinInt), []api.Span{times(0, math.MinInt)}, 0, true)
	wantHolds(t, slow(math.MinInt+1), []api.Span{times(0, math.MinInt)}, 0, false)
}

// Without spans no trace is slow, whatever A is.
func TestSlowOfNone(t *testing.T) {
	for _, a := range edges() {
		wantHolds(t, slow(a), nil, 0, false)
		wantHolds(t, slow(a), []api.Span{}, whole-1, false)
		wantHolds(t, slow(a), []api.Span{times(0, math.MaxInt)}[:0], 0, false)
	}
}

func TestWrong(t *testing.T) {
	bad := api.Span{Bad: true}
	wantHolds(t, wrong(), nil, 0, false)
	wantHolds(t, wrong(), []api.Span{bad}[:0], 0, false)
	wantHolds(t, wrong(), []api.Span{bad}, 0, true)
	wantHolds(t, wrong(), []api.Span{bad, bad, bad}, 0, true)
	for _, n := range []int{1, 2, 3, 10, 5000} {
		wantHolds(t, wrong(), spans(n), 0, false)
		for _, place := range []int{0, 1, n / 2, n - 1} {
			l := spans(n)
			l[min(place, n-1)].Bad = true
			wantHolds(t, wrong(), l, 0, true)
			wantHolds(t, wrong(), l[:min(place, n-1)], 0, false)
		}
	}
	// What else is odd with a span is not what Bad tells.
	wantHolds(t, wrong(), []api.Span{times(9, 3), with("bad", "true"), {Name: "bad", Rv: whole + 1}}, whole, false)
}

func TestHas(t *testing.T) {
	r := has("key", "val")
	for _, c := range []struct {
		l    []api.Span
		want bool
	}{
		{nil, false}, {[]api.Span{}, false}, {spans(1), false}, {spans(5), false},
		{[]api.Span{with("key", "val")}, true},
		{[]api.Span{with("key", "other")}, false}, {[]api.Span{with("other", "val")}, false},
		{[]api.Span{with("val", "key")}, false}, {[]api.Span{with("key", "")}, false}, {[]api.Span{with("", "val")}, false},
		{[]api.Span{with("key", "val ")}, false}, {[]api.Span{with("key", "va")}, false}, {[]api.Span{with("ke", "val")}, false},
		{[]api.Span{with("key ", "val")}, false}, {[]api.Span{with("KEY", "val")}, false}, {[]api.Span{with("key", "VAL")}, false},
		{[]api.Span{with("keyval", "")}, false}, {[]api.Span{with("", "keyval")}, false}, {[]api.Span{with("ke", "yval")}, false}, {[]api.Span{with("keyv", "al")}, false},
		{[]api.Span{with("key", "other", "other", "val")}, false}, // both in two attributes
		{[]api.Span{with("other", "val", "key", "other")}, false},
		{[]api.Span{with("key", "other"), with("other", "val")}, false}, // both in two spans
		{[]api.Span{with("other", "val"), with("key", "other")}, false},
		{[]api.Span{with("key", "other", "key", "val")}, true}, // the same key twice
		{[]api.Span{with("key", "val", "key", "other")}, true},
		{[]api.Span{with("key", "other"), with("key", "val")}, true},
		{[]api.Span{with("key", "val"), with("key", "other")}, true},
		{[]api.Span{with("key", "val", "key", "val"), with("key", "val")}, true},
		{[]api.Span{{Name: "key"}, {Name: "val"}, {Name: "key val"}}, false},
		{[]api.Span{with("key", "val")}[:0], false},
	} {
		wantHolds(t, r, c.l, 0, c.want)
	}
}

// The first and the last attribute, in the first and the last span.
func TestHasOfEachPlace(t *testing.T) {
	for _, n := range []int{1, 2, 3, 100} {
		for _, m := range []int{1, 2, 3, 8, 20} {
			for _, i := range []int{0, n / 2, n - 1} {
				for _, j := range []int{0, m / 2, m - 1} {
					l := spans(n)
					for k := range l {
						l[k].Attrs = slices.Repeat([]api.Attr{{Key: "k", Val: "w"}, {Key: "l", Val: "v"}}, m)[:m]
					}
					wantHolds(t, has("k", "v"), l, 0, false)
					l[i].Attrs[j] = api.Attr{Key: "k", Val: "v"}
					wantHolds(t, has("k", "v"), l, 0, true)
				}
			}
		}
	}
}

// Texts that Right refuses are asked for, too: no Key, no Val, long ones, any bytes.
func TestHasOfAnyTexts(t *testing.T) {
	wantHolds(t, has("", ""), nil, 0, false)
	wantHolds(t, has("", ""), spans(3), 0, false)
	texts := []string{"", "a", "ab", " ", "\x00", "\xff", "é", string(make([]byte, 61)), string(make([]byte, 62))}
	for _, key := range texts {
		for _, val := range texts {
			for _, other := range texts {
				wantHolds(t, has(key, val), []api.Span{with(key, val)}, 0, true)
				wantHolds(t, has(key, val), []api.Span{{}, with(other, val)}, 0, other == key)
				wantHolds(t, has(key, val), []api.Span{with(key, other), {}}, 0, other == val)
			}
		}
	}
}

func TestMany(t *testing.T) {
	for _, n := range []int{0, 1, 2, 3, 10, 4999, 5000, 5001} {
		l := spans(n)
		wantHolds(t, many(n), l, 0, true)
		wantHolds(t, many(n-1), l, 0, true)
		wantHolds(t, many(n+1), l, 0, false)
		for _, a := range edges() {
			wantHolds(t, many(a), l, 0, n >= a)
		}
	}
	wantHolds(t, many(0), nil, 0, true)
	wantHolds(t, many(-1), nil, 0, true)
	wantHolds(t, many(1), nil, 0, false)
	wantHolds(t, many(2), spans(9)[:1], 0, false)
}

// Share is as prob.Keep tells of the number and A.
func TestShare(t *testing.T) {
	for _, c := range []struct {
		number uint64
		a      int
		want   bool
	}{
		{0, 0, true}, {1, 0, true}, {whole - 1, 0, true}, {0, 1, false}, {1, 1, true}, {2, 1, true}, {1, 2, false},
		{whole - 2, whole - 1, false}, {whole - 1, whole - 1, true}, {whole - 1, whole, false}, {whole, whole, false}, {whole - 1, whole + 1, false},
		{whole, 0, false}, {whole + 1, whole + 1, false}, {math.MaxUint64, 0, false}, {math.MaxUint64, math.MaxInt, false}, {1 << 63, 5, false},
		{0, -1, false}, {whole - 1, -1, false}, {math.MaxUint64, -1, false}, {0, math.MinInt, false}, {1 << 63, math.MinInt, false}, {whole - 1, -whole, false},
	} {
		wantHolds(t, share(c.a), nil, c.number, c.want)
		wantHolds(t, share(c.a), spans(3), c.number, c.want)
	}
	for _, a := range edges() {
		for _, n := range edges() {
			for _, number := range []uint64{uint64(n), uint64(n) - 1, uint64(n) + 1} {
				want := a >= 0 && prob.Keep(number, uint64(a))
				wantHolds(t, share(a), nil, number, want)
				wantHolds(t, share(a), []api.Span{{Lo: 7, Rv: 8, Bad: true}}, number, want)
			}
		}
	}
}

// Share asks of the number that is told, not of one that its spans have.
func TestShareOfNumberAlone(t *testing.T) {
	l := []api.Span{{Hi: 1, Lo: 100, Rv: 51}, {Hi: 1, Lo: 100}}
	wantHolds(t, share(50), l, 49, false)
	wantHolds(t, share(100), l, 49, false)
	wantHolds(t, share(101), l, 101, true)
}

// fullSpans have whatever rules of all kinds may ask for.
func fullSpans() []api.Span {
	s := with("k", "v", "", "")
	s.Start, s.End, s.Bad = 3, 1000, true
	return []api.Span{s, s, s}
}

func TestOtherKinds(t *testing.T) {
	for kind := range 256 {
		want := kind >= 1 && kind <= 5
		wantHolds(t, api.Rule{Kind: uint8(kind), Key: "k", Val: "v"}, fullSpans(), whole-1, want)
		if want {
			continue
		}
		for _, a := range edges() {
			r := api.Rule{Kind: uint8(kind), A: a}
			wantHolds(t, r, fullSpans(), whole-1, false)
			wantHolds(t, r, nil, whole-1, false)
			wantHolds(t, r, spans(2), 0, false)
		}
	}
}

// What a kind's words do not name counts for nothing: A of Wrong and Has, texts of all but Has, the number of all but Share.
func TestWhatIsNotAsked(t *testing.T) {
	for _, a := range edges() {
		for _, key := range []string{"", "k", "l"} {
			for _, number := range []uint64{0, whole - 1, whole, math.MaxUint64} {
				wantHolds(t, api.Rule{Kind: 1, A: 997, Key: key, Val: "v"}, fullSpans(), number, true)
				wantHolds(t, api.Rule{Kind: 1, A: 998, Key: key, Val: "v"}, fullSpans(), number, false)
				wantHolds(t, api.Rule{Kind: 2, A: a, Key: key, Val: "v"}, fullSpans(), number, true)
				wantHolds(t, api.Rule{Kind: 2, A: a, Key: key, Val: "v"}, spans(2), number, false)
				wantHolds(t, api.Rule{Kind: 3, A: a, Key: key, Val: "v"}, fullSpans(), number, key == "k")
				wantHolds(t, api.Rule{Kind: 4, A: 3, Key: key, Val: "v"}, fullSpans(), number, true)
				wantHolds(t, api.Rule{Kind: 4, A: 4, Key: key, Val: "v"}, fullSpans(), number, false)
				wantHolds(t, api.Rule{Kind: 5, A: 3, Key: key, Val: "v"}, fullSpans(), number, number == whole-1)
			}
		}
	}
}

func TestHoldsAsWorded(t *testing.T) {
	var counts [6][2]int
	drawn(t, 5, 100000, func(r *rand.Rand) {
		x, l, number := anyRule(r), anySpans(r), anyNumber(r)
		want := holdsByWords(x, l, number)
		wantHolds(t, x, l, number, want)
		if x.Kind <= 5 && want {
			counts[x.Kind][1]++
		} else if x.Kind <= 5 {
			counts[x.Kind][0]++
		}
	})
	for kind := 1; kind <= 5; kind++ {
		if counts[kind][0] < 1000 || counts[kind][1] < 1000 {
			t.Errorf("what was drawn of kind %d: %d times it does not hold, %d times it does", kind, counts[kind][0], counts[kind][1])
		}
	}
}

// A and what it is held against are near to one another.
func TestHoldsNearAsWorded(t *testing.T) {
	drawn(t, 6, 50000, func(r *rand.Rand) {
		l, number := anySpans(r), anyNumber(r)
		near := r.Intn(5) - 2
		for _, x := range []api.Rule{slow(lengthByWords(l) + near), many(len(l) + near), share(int(number) + near)} {
			wantHolds(t, x, l, number, holdsByWords(x, l, number))
		}
	})
}

// What holds: with more spans each rule that held still does. (Times are such that no length passes over an int64's end.)
func TestMoreSpans(t *testing.T) {
	held := 0
	drawn(t, 7, 50000, func(r *rand.Rand) {
		x, l, number := anyRule(r), row(r, 6, nearSpan), anyNumber(r)
		for range 6 {
			more := slices.Insert(slices.Clone(l), r.Intn(len(l)+1), nearSpan(r))
			if policy.Holds(x, l, number) {
				held++
				if !policy.Holds(x, more, number) {
					t.Errorf("Holds(%+v) of %v, and not of %v", x, l, more)
				}
			}
			l = more
		}
	})
	if held < 10000 {
		t.Errorf("what was drawn held %d times", held)
	}
}
