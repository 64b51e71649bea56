package prio_test

import (
	"math"
	"math/rand"
	"testing"

	"telemeter/prio"
)

func wantAbove(t *testing.T, a, c, b, d uint64, want bool) {
	t.Helper()
	if got := prio.Above(a, c, b, d); got != want {
		t.Errorf("Above(%d, %d, %d, %d): %v; want %v", a, c, b, d, got, want)
	}
}

const greatest = math.MaxUint64

func TestAbove(t *testing.T) {
	for _, c := range []struct {
		a, c, b, d uint64
		want       bool
	}{
		{1, 0, 1, 1, true}, {1, 1, 1, 0, false}, {2, 0, 1, 0, true}, {1, 0, 2, 0, false},
		{2, 1, 1, 0, false}, {1, 0, 2, 1, false}, {3, 1, 1, 0, true}, {3, 2, 1, 0, false}, {3, 1, 2, 1, true}, // 3/2 and 1; 1 and 1; 3/2 and 1
		{5, 6, 7, 9, true}, {7, 9, 5, 6, false}, {5, 7, 7, 9, false}, {7, 9, 5, 7, true}, // 5/7, 7/10, 5/8
		{10, 3, 7, 2, true}, {2, 3, 1, 1, false}, {1, 1, 2, 3, false}, // 10/4 and 7/3: without rounding; 2/4 and 1/2
		{7, 2, 10, 3, false}, {1, 2, 1, 3, true}, {1, 3, 1, 2, false},
	} {
		wantAbove(t, c.a, c.c, c.b, c.d, c.want)
	}
}

// None of weight 0 is above anything; anything else is above it.
func TestAboveOfNoWeight(t *testing.T) {
	for _, c := range edges() {
		for _, d := range edges() {
			wantAbove(t, 0, c, 0, d, false)
			for _, w := range edges()[1:] {
				wantAbove(t, w, c, 0, d, true)
				wantAbove(t, 0, c, w, d, false)
			}
		}
	}
}

// No priority is above itself, or above one that is alike.
func TestAboveOfAlike(t *testing.T) {
	for _, w := range edges() {
		for _, d := range edges() {
			wantAbove(t, w, d, w, d, false)
		}
	}
	for k := uint64(1); k < 40; k++ { // 3/5, each by other numbers
		for l := uint64(1); l < 40; l++ {
			wantAbove(t, 3*k, 5*k-1, 3*l, 5*l-1, false)
			wantAbove(t, 3*k+1, 5*k-1, 3*l, 5*l-1, true)
			wantAbove(t, 3*k, 5*k-1, 3*l+1, 5*l-1, false)
			wantAbove(t, 3*k, 5*k-1, 3*l, 5*l, true)
			wantAbove(t, 3*k, 5*k, 3*l, 5*l-1, false)
		}
	}
	for i := range 64 { // 2^i by 2^i
		for j := range 64 {
			wantAbove(t, 1<<i, 1<<i-1, 1<<j, 1<<j-1, false)
			wantAbove(t, 1<<i+1, 1<<i-1, 1<<j, 1<<j-1, true)
			wantAbove(t, 1<<i, 1<<i, 1<<j, 1<<j-1, false)
			wantAbove(t, 1<<i, 1<<i-1, 1<<j, 1<<j, true)
		}
	}
}

// Products of 128 digits, which differ in their upper half, in their lower half, or not at all; d + 1 of 2^64 among them.
func TestAboveOfGreat(t *testing.T) {
	for _, c := range []struct {
		a, c, b, d uint64
		want       bool
	}{
		{greatest, greatest, greatest, greatest, false}, {greatest, greatest - 1, greatest, greatest, true}, {greatest, greatest, greatest, greatest - 1, false},
		{greatest, greatest, greatest - 1, greatest, true}, {greatest - 1, greatest, greatest, greatest, false},
		{greatest, greatest, 1, 0, false}, {1, 0, greatest, greatest, true}, // less than 1, and 1
		{greatest, greatest - 1, 1, 0, false}, {1, 0, greatest, greatest - 1, false}, // 1 and 1
		{greatest, 0, greatest - 1, 0, true}, {greatest, 0, greatest, 1, true}, {1, greatest, 1, greatest - 1, false}, {1, greatest - 1, 1, greatest, true},
		{1 << 63, greatest, 1, 1, false}, {1<<63 + 1, greatest, 1, 1, true}, {1<<63 - 1, greatest, 1, 1, false}, // about a half
		{1, 1, 1 << 63, greatest, false}, {1, 1, 1<<63 + 1, greatest, false}, {1, 1, 1<<63 - 1, greatest, true},
		{1, greatest, 0, 0, true}, {0, 0, 1, greatest, false},
		{1 << 32, 1<<32 - 1, 1, 0, false}, {1<<32 + 1, 1<<32 - 1, 1, 0, true}, {1 << 32, 1 << 32, 1, 0, false},
	} {
		wantAbove(t, c.a, c.c, c.b, c.d, c.want)
	}
}

// byWordsAbove holds the priorities as they are worded against one another.
func byWordsAbove(a, c, b, d uint64) bool {
	return priority(a, number(c)).Cmp(priority(b, number(d))) > 0
}

// Each edge with each.
func TestAboveOfEdges(t *testing.T) {
	for _, a := range edges() {
		for _, c := range edges() {
			for _, b := range edges() {
				for _, d := range edges() {
					wantAbove(t, a, c, b, d, byWordsAbove(a, c, b, d))
				}
			}
		}
	}
}

// All small ones.
func TestAboveOfSmall(t *testing.T) {
	for i := range uint64(1 << 12) {
		a, c, b, d := i&7, i>>3&7, i>>6&7, i>>9&7
		wantAbove(t, a, c, b, d, byWordsAbove(a, c, b, d))
	}
}

// Drawn ones; of two that are not alike just one is above the other one.
func TestAboveAsWorded(t *testing.T) {
	drawn(1, 100000, func(r *rand.Rand) {
		a, c, b, d := anyNumber(r), anyNumber(r), anyNumber(r), anyNumber(r)
		if r.Intn(3) == 0 {
			b, d = a+uint64(r.Intn(3))-1, c+uint64(r.Intn(3))-1
		}
		wantAbove(t, a, c, b, d, byWordsAbove(a, c, b, d))
		wantAbove(t, b, d, a, c, byWordsAbove(b, d, a, c))
	})
}
