package policy_test

import (
	"fmt"
	"math"
	"math/big"
	"math/rand"
	"slices"
	"strings"
	"testing"

	"telemeter/api"
	"telemeter/policy"
)

// What the chapter words, written another way than the program is: the tests hold one against the other.

const (
	whole    = 72057594037927936
	mostName = 60
	mostRule = 20
)

// lengthByWords is a difference of times that stand sorted, as an int64 holds it.
func lengthByWords(l []api.Span) int {
	var starts, ends []int
	for _, s := range l {
		starts, ends = append(starts, s.Start), append(ends, s.End)
	}
	slices.Sort(starts)
	slices.Sort(ends)
	if len(l) == 0 {
		return 0
	}
	n := new(big.Int).Sub(big.NewInt(int64(ends[len(ends)-1])), big.NewInt(int64(starts[0])))
	n.Mod(n, new(big.Int).Lsh(big.NewInt(1), 64))
	return int(n.Uint64())
}

func holdsByWords(r api.Rule, l []api.Span, number uint64) bool {
	bad, attrs := 0, map[string]int{}
	for _, s := range l {
		if s.Bad {
			bad++
		}
		for _, a := range s.Attrs {
			attrs[fmt.Sprintf("%q=%q", a.Key, a.Val)]++
		}
	}
	switch r.Kind {
	case 1:
		return len(l) != 0 && !(lengthByWords(l) < r.A)
	case 2:
		return bad != 0
	case 3:
		return attrs[fmt.Sprintf("%q=%q", r.Key, r.Val)] != 0
	case 4:
		return !(len(l) < r.A)
	case 5:
		n := new(big.Int).SetUint64(number)
		return r.A >= 0 && n.BitLen() <= 56 && n.Cmp(big.NewInt(int64(r.A))) >= 0
	}
	return false
}

// allByWords counts those that do not hold.
func allByWords(l []api.Rule, spans []api.Span, number uint64) bool {
	not := 0
	for _, r := range l {
		if !holdsByWords(r, spans, number) {
			not++
		}
	}
	return not == 0
}

// whichByWords goes from the last row to the first one.
func whichByWords(l [][]api.Rule, spans []api.Span, number uint64) int {
	place := -1
	for i := len(l) - 1; i >= 0; i-- {
		if allByWords(l[i], spans, number) {
			place = i
		}
	}
	return place
}

// faults tells what is wrong with a rule.
func faults(r api.Rule) []string {
	var l []string
	wrong := func(is bool, what string) {
		if is {
			l = append(l, what)
		}
	}
	wrong(!strings.ContainsRune("\x01\x02\x03\x04\x05", rune(r.Kind)), "kind")
	wrong(r.A < 0, "A below 0")
	wrong(r.Kind == 5 && r.A > whole, "share")
	wrong((r.Kind == 2 || r.Kind == 3) && r.A != 0, "A of wrong or has")
	wrong(r.Kind == 3 && (len(r.Key) == 0 || len(r.Key) > mostName), "key")
	wrong(r.Kind == 3 && len(r.Val) > mostName, "val")
	wrong(r.Kind != 3 && r.Key+r.Val != "", "texts")
	return l
}

func rightByWords(l [][]api.Rule) bool {
	var empty int
	for _, row := range l {
		if len(row) == 0 {
			empty++
		}
	}
	all := slices.Concat(l...)
	return empty == 0 && len(all) <= mostRule && !slices.ContainsFunc(all, func(r api.Rule) bool { return faults(r) != nil })
}

// short is a text of what may be long.
func short(x any) string {
	return fmt.Sprintf("%.300s", fmt.Sprintf("%+v", x))
}

func wantLength(t *testing.T, l []api.Span, want int) {
	t.Helper()
	if got := policy.Length(l); got != want {
		t.Errorf("Length(%s): %d; want %d", short(l), got, want)
	}
}

func wantHolds(t *testing.T, r api.Rule, l []api.Span, number uint64, want bool) {
	t.Helper()
	if got := policy.Holds(r, l, number); got != want {
		t.Errorf("Holds(%s, %s, %#x): %t; want %t", short(r), short(l), number, got, want)
	}
}

func wantAll(t *testing.T, l []api.Rule, spans []api.Span, number uint64, want bool) {
	t.Helper()
	if got := policy.All(l, spans, number); got != want {
		t.Errorf("All(%s, %s, %#x): %t; want %t", short(l), short(spans), number, got, want)
	}
}

func wantWhich(t *testing.T, l [][]api.Rule, spans []api.Span, number uint64, want int) {
	t.Helper()
	if got := policy.Which(l, spans, number); got != want {
		t.Errorf("Which(%s, %s, %#x): %d; want %d", short(l), short(spans), number, got, want)
	}
}

// wantRight asks of those rows, by what is written out in the tests and by the words.
func wantRight(t *testing.T, l [][]api.Rule, want bool) {
	t.Helper()
	if got := policy.Right(l); got != want {
		t.Errorf("Right(%s): %t; want %t", short(l), got, want)
	}
	if by := rightByWords(l); by != want {
		t.Errorf("Right(%s): %t is written out, %t by the words", short(l), want, by)
	}
}

// The rules of each Kind.

func slow(a int) api.Rule  { return api.Rule{Kind: 1, A: a} }
func wrong() api.Rule      { return api.Rule{Kind: 2} }
func many(a int) api.Rule  { return api.Rule{Kind: 4, A: a} }
func share(a int) api.Rule { return api.Rule{Kind: 5, A: a} }

func has(key, val string) api.Rule { return api.Rule{Kind: 3, Key: key, Val: val} }

// times is a span of these.
func times(start, end int) api.Span { return api.Span{Start: start, End: end} }

// with is a span of attributes: keys and values, one behind the other.
func with(texts ...string) api.Span {
	var s api.Span
	for i := 0; i+1 < len(texts); i += 2 {
		s.Attrs = append(s.Attrs, api.Attr{Key: texts[i], Val: texts[i+1]})
	}
	return s
}

// spans are so many that have nothing.
func spans(n int) []api.Span { return make([]api.Span, n) }

// edges are the least and the greatest numbers, and those about which the chapter's words turn.
func edges() []int {
	return []int{
		math.MinInt, math.MinInt + 1, -whole, -1 << 32, -256, -6, -2, -1, 0, 1, 2, 3, 4, 5, 6, 20, 21, 255, 256,
		1<<31 - 1, 1 << 31, 1<<32 - 1, 1 << 32, 1<<40 - 1, 1 << 40, 1<<55 - 1, 1 << 55, whole - 2, whole - 1, whole, whole + 1, whole + 2,
		1 << 62, math.MaxInt - 1, math.MaxInt,
	}
}

// drawn stops when something has failed: much more would be told of the same fault.
func drawn(t *testing.T, seed int64, times int, f func(r *rand.Rand)) {
	r := rand.New(rand.NewSource(seed))
	for i := 0; i < times && !t.Failed(); i++ {
		f(r)
	}
}

// What is drawn is often small, so that rules hold as often as they do not.

func anyInt(r *rand.Rand) int {
	switch r.Intn(8) {
	case 0:
		return edges()[r.Intn(len(edges()))]
	case 1:
		return int(r.Uint64() >> r.Intn(64))
	}
	return r.Intn(8) - 1
}

func anyNumber(r *rand.Rand) uint64 { return uint64(anyInt(r)) }

func anyText(r *rand.Rand) string { return []string{"", "a", "b", "ab", "\x00", "é"}[r.Intn(6)] }

func anyRule(r *rand.Rand) api.Rule {
	x := api.Rule{Kind: uint8(1 + r.Intn(5)), A: anyInt(r), Key: anyText(r), Val: anyText(r)}
	if r.Intn(10) == 0 {
		x.Kind = uint8(r.Intn(256))
	}
	return x
}

func anySpan(r *rand.Rand) api.Span {
	s := times(anyInt(r), anyInt(r))
	s.Bad = r.Intn(6) == 0
	for range r.Intn(4) {
		s.Attrs = append(s.Attrs, api.Attr{Key: anyText(r), Val: anyText(r)})
	}
	s.Hi, s.Lo, s.ID, s.Rv, s.Name = r.Uint64(), r.Uint64(), r.Uint64(), anyNumber(r), anyText(r) // no rule asks for these
	return s
}

// nearSpan has times of which no two are so far apart that an int64 does not hold it.
func nearSpan(r *rand.Rand) api.Span {
	s := anySpan(r)
	s.Start, s.End = s.Start>>1, s.End>>1
	return s
}

// row is so many of what is drawn, below n.
func row[T any](r *rand.Rand, n int, one func(*rand.Rand) T) []T {
	var l []T
	for range r.Intn(n) {
		l = append(l, one(r))
	}
	return l
}

func anySpans(r *rand.Rand) []api.Span { return row(r, 6, anySpan) }

func anyRules(r *rand.Rand) []api.Rule { return row(r, 4, anyRule) }

func anyRows(r *rand.Rand) [][]api.Rule { return row(r, 5, anyRules) }
