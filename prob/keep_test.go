package prob_test

import (
	"math"
	"math/big"
	"math/rand"
	"sort"
	"testing"

	"telemeter/api"
	"telemeter/prob"
)

func TestKeep(t *testing.T) {
	for _, c := range []struct {
		r, t uint64
		want bool
	}{
		{0, 0, true}, {1, 0, true}, {whole - 1, 0, true},
		{0, 1, false}, {1, 1, true}, {2, 1, true},
		{3<<54 - 1, 3 << 54, false}, {3 << 54, 3 << 54, true}, {3<<54 + 1, 3 << 54, true},
		{0, whole - 1, false}, {whole - 2, whole - 1, false}, {whole - 1, whole - 1, true},
		{0, whole, false}, {whole - 1, whole, false}, // 2^56 keeps none
		{0, whole + 1, false}, {whole - 1, math.MaxUint64, false},
		{whole, 0, false}, {whole, whole - 1, false}, {whole, whole, false}, // no trace has such a number
		{whole + 1, 0, false}, {whole + 1, 1, false}, {whole + 1, whole, false}, {whole + 1, whole + 1, false},
		{1 << 63, 0, false}, {math.MaxUint64, 0, false}, {math.MaxUint64, whole, false}, {math.MaxUint64, math.MaxUint64, false},
	} {
		wantKeep(t, c.r, c.t, c.want)
	}
}

func TestKeepAsWorded(t *testing.T) {
	for _, r := range edges() {
		for _, threshold := range edges() {
			wantKeep(t, r, threshold, keepByWords(r, threshold))
		}
	}
	drawn(1, 20000, func(r *rand.Rand) {
		a, b := anyNumber(r), anyNumber(r)
		wantKeep(t, a, b, keepByWords(a, b))
		near := a + uint64(r.Intn(5)) - 2
		wantKeep(t, near, a, keepByWords(near, a))
	})
}

func TestNumber(t *testing.T) {
	const lo = 0xfedcba9876543210 // digits above the 56 lowest, too
	for _, c := range []struct{ rv, lo, want uint64 }{
		{0, 0, 0}, {0, 1, 1}, {0, lo, 0xdcba9876543210},
		{0, whole - 1, whole - 1}, {0, whole, 0}, {0, whole + 1, 1}, {0, math.MaxUint64, whole - 1}, {0, 0xff << 56, 0},
		{1, lo, 0}, {2, lo, 1}, {1 << 55, lo, 1<<55 - 1}, {whole - 1, lo, whole - 2}, {whole, lo, whole - 1},
		{whole + 1, lo, 0xdcba9876543210}, {whole + 2, lo, 0xdcba9876543210}, {1 << 63, lo, 0xdcba9876543210},
		{math.MaxUint64, lo, 0xdcba9876543210}, {math.MaxUint64, 5, 5}, {math.MaxUint64, 0, 0}, {whole + 1, 0, 0},
		{1, 0, 0}, {2, 0, 1}, {whole, 0, whole - 1}, {whole, math.MaxUint64, whole - 1},
	} {
		wantNumber(t, api.Span{Lo: c.lo, Rv: c.rv}, c.want)
		wantNumber(t, api.Span{Lo: c.lo, Rv: c.rv, Hi: math.MaxUint64}, c.want) // Hi counts for nothing
	}
}

// What a span has beside Lo and Rv counts for nothing, and need not be right.
func TestNumberOfAnySpan(t *testing.T) {
	wantNumber(t, api.Span{}, 0)
	wantNumber(t, api.Span{Hi: 7, ID: 8, Parent: 9, Name: "n", Start: 10, End: 11, Bad: true, Attrs: []api.Attr{{Key: "k", Val: "v"}}}, 0)
	for _, rv := range edges() {
		for _, lo := range edges() {
			s := api.Span{Lo: lo, Rv: rv}
			want := numberByWords(s)
			wantNumber(t, s, want)
			wantNumber(t, api.Span{Hi: ^lo, Lo: lo, ID: rv, Parent: lo, Name: "n", Start: -1, End: -2, Bad: true, Rv: rv}, want)
		}
	}
	drawn(2, 20000, func(r *rand.Rand) {
		s := api.Span{Hi: r.Uint64(), Lo: r.Uint64(), ID: r.Uint64(), Start: r.Int(), End: r.Int(), Rv: anyNumber(r)}
		want := numberByWords(s)
		wantNumber(t, s, want)
		if want >= whole {
			t.Errorf("the words tell %d of %+v", want, s)
		}
	})
}

func TestKept(t *testing.T) {
	for _, c := range []struct{ t, want uint64 }{
		{0, whole}, {1, whole - 1}, {1 << 55, 1 << 55}, {3 << 54, 1 << 54}, {whole - 2, 2}, {whole - 1, 1},
		{whole, 0}, {whole + 1, 0}, {2 * whole, 0}, {1 << 63, 0}, {math.MaxUint64, 0},
	} {
		wantKept(t, c.t, c.want)
	}
	for _, threshold := range edges() {
		wantKept(t, threshold, keptByWords(threshold))
	}
	drawn(3, 20000, func(r *rand.Rand) {
		threshold := anyNumber(r)
		wantKept(t, threshold, keptByWords(threshold))
	})
}

// Kept counts what Keep keeps: all from the first one on, none ahead of it, none from 2^56 on.
func TestKeptCountsKeep(t *testing.T) {
	check := func(threshold uint64) {
		t.Helper()
		first := uint64(sort.Search(whole, func(r int) bool { return prob.Keep(uint64(r), threshold) }))
		if got := prob.Kept(threshold); got != whole-first {
			t.Errorf("Kept(%#x): %d; Keep keeps from %d on", threshold, got, first)
		}
	}
	for _, threshold := range edges() {
		check(threshold)
	}
	drawn(4, 5000, func(r *rand.Rand) { check(anyNumber(r)) })
}

// T5: who has the lesser threshold keeps all that the other one keeps.
func TestLesserKeepsAll(t *testing.T) {
	check := func(r, a, b uint64) {
		t.Helper()
		lesser, greater := min(a, b), max(a, b)
		if prob.Keep(r, greater) && !prob.Keep(r, lesser) {
			t.Errorf("%#x is kept by %#x, and not by %#x", r, greater, lesser)
		}
		if prob.Kept(lesser) < prob.Kept(greater) {
			t.Errorf("%#x keeps fewer than %#x", lesser, greater)
		}
	}
	some := []uint64{0, 1, 2, 1 << 55, 3 << 54, whole - 2, whole - 1, whole, whole + 1, 1 << 63, math.MaxUint64}
	for _, a := range some {
		for _, b := range some {
			for _, r := range edges() {
				check(r, a, b)
			}
		}
	}
	drawn(5, 20000, func(r *rand.Rand) { check(anyNumber(r), anyNumber(r), anyNumber(r)) })
}

// T5: spans of a trace are kept alike, whatever else they have; a lesser share keeps nothing more.
func TestTracesAreKeptAlike(t *testing.T) {
	drawn(6, 20000, func(r *rand.Rand) {
		one := api.Span{Hi: r.Uint64(), Lo: r.Uint64(), ID: 1, Name: "a", Rv: uint64(r.Intn(2)) * (r.Uint64()%whole + 1)}
		other := api.Span{Hi: one.Hi, Lo: one.Lo, ID: 2, Parent: 1, Name: "b", Start: 3, End: 9, Bad: true, Rv: one.Rv}
		of := r.Uint64()>>r.Intn(60) | 1
		keep := r.Uint64() % of
		greater, e := prob.Threshold(keep, of)
		lesser, f := prob.Threshold(keep+r.Uint64()%(of-keep)+1, of)
		if e != api.OK || f != api.OK || lesser > greater {
			t.Errorf("a share of %d of %d has %#x; a greater one %#x", keep, of, greater, lesser)
		}
		if prob.Keep(prob.Number(one), greater) != prob.Keep(prob.Number(other), greater) {
			t.Errorf("%+v and %+v are of one trace", one, other)
		}
		if prob.Keep(prob.Number(one), greater) && !prob.Keep(prob.Number(other), lesser) {
			t.Errorf("%+v is kept by %#x, and not by %#x", one, greater, lesser)
		}
	})
}

// T6: what is kept counts, over all numbers, for all.
func TestKeptCountsForAll(t *testing.T) {
	check := func(threshold uint64) {
		t.Helper()
		num, den, e := prob.Weight(threshold)
		counted := new(big.Int).Mul(bigOf(prob.Kept(threshold)), bigOf(num))
		if e != api.OK || den == 0 || counted.Cmp(new(big.Int).Mul(bigOf(whole), bigOf(den))) != 0 {
			t.Errorf("%#x keeps %d, each for %d by %d (%d)", threshold, prob.Kept(threshold), num, den, e)
		}
	}
	for _, threshold := range edges() {
		if threshold < whole {
			check(threshold)
		}
	}
	drawn(7, 20000, func(r *rand.Rand) { check(anyThreshold(r)) })
}
