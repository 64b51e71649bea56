package policy_test

import (
	"math"
	"math/rand"
	"slices"
	"testing"

	"telemeter/api"
)

func TestLengthOfNone(t *testing.T) {
	wantLength(t, nil, 0)
	wantLength(t, []api.Span{}, 0)
	wantLength(t, []api.Span{times(3, 9)}[:0], 0)
}

func TestLengthOfOne(t *testing.T) {
	for _, c := range []struct{ start, end, want int }{
		{0, 0, 0}, {0, 1, 1}, {3, 9, 6}, {9, 9, 0}, {1 << 40, 1 << 40, 0}, {0, 1 << 40, 1 << 40},
		{9, 3, -6}, {1, 0, -1}, {-5, -3, 2}, {-3, -5, -2}, {-5, 3, 8}, {5, -3, -8}, // of any times
	} {
		wantLength(t, []api.Span{times(c.start, c.end)}, c.want)
	}
}

// orders are all orders of a few spans.
func orders(l []api.Span) [][]api.Span {
	if len(l) == 0 {
		return [][]api.Span{nil}
	}
	var all [][]api.Span
	for i := range l {
		for _, rest := range orders(slices.Delete(slices.Clone(l), i, i+1)) {
			all = append(all, append([]api.Span{l[i]}, rest...))
		}
	}
	return all
}

func TestLengthOfMany(t *testing.T) {
	for _, c := range []struct {
		l    []api.Span
		want int
	}{
		{[]api.Span{times(3, 9), times(5, 12)}, 9},
		{[]api.Span{times(3, 12), times(5, 9)}, 9},                   // one within the other
		{[]api.Span{times(3, 5), times(9, 12)}, 9},                   // with nothing between
		{[]api.Span{times(3, 5), times(5, 12)}, 9},                   // one just behind the other
		{[]api.Span{times(3, 9), times(3, 9)}, 6},                    // alike
		{[]api.Span{times(3, 9), times(3, 4)}, 6},                    // from one time
		{[]api.Span{times(3, 9), times(8, 9)}, 6},                    // to one time
		{[]api.Span{times(4, 5), times(3, 4), times(5, 12)}, 9},      // of three
		{[]api.Span{times(4, 5), times(3, 12), times(5, 6)}, 9},      // both ends are of one
		{[]api.Span{times(9, 3), times(8, 5)}, -3},                   // each ends ahead of its beginning
		{[]api.Span{times(9, 3), times(1, 2)}, 2},                    // one does
		{[]api.Span{times(-9, -3), times(-5, 2)}, 11},                // below 0
		{[]api.Span{times(0, 0), times(1<<40, 1<<40)}, 1 << 40},      // as far as items may be
		{[]api.Span{times(7, 7), times(7, 7), times(7, 7)}, 0},       // no time passes
		{[]api.Span{times(2, 8), times(1, 3), times(9, 9), {}}, 9},   // one of times 0
		{[]api.Span{times(-2, -8), times(-1, -3), times(-9, 9)}, 18}, // to another sign
	} {
		for _, l := range orders(c.l) {
			wantLength(t, l, c.want)
		}
	}
}

// The first and the last time of 5000 may be anywhere.
func TestLengthOfEachPlace(t *testing.T) {
	l := slices.Repeat([]api.Span{times(50, 60)}, 5000)
	for _, first := range []int{0, 1, 2500, 4998, 4999} {
		for _, last := range []int{0, 1, 2500, 4998, 4999} {
			x := slices.Clone(l)
			x[first].Start, x[last].End = 7, 100
			wantLength(t, x, 93)
		}
	}
}

// A length that an int64 does not hold is taken modulo 2^64 (R8).
func TestLengthOfFarTimes(t *testing.T) {
	for _, c := range []struct{ start, end, want int }{
		{math.MinInt, math.MinInt, 0}, {math.MaxInt, math.MaxInt, 0},
		{0, math.MaxInt, math.MaxInt}, {1, math.MaxInt, math.MaxInt - 1}, {-1, math.MaxInt - 1, math.MaxInt},
		{math.MinInt, -1, math.MaxInt}, {math.MinInt + 1, 0, math.MaxInt}, {math.MaxInt, 0, -math.MaxInt}, {math.MaxInt, -1, math.MinInt},
		{math.MinInt, math.MaxInt, -1}, {math.MinInt, math.MaxInt - 1, -2}, {math.MinInt + 1, math.MaxInt, -2},
		{math.MinInt, 0, math.MinInt}, {0, math.MinInt, math.MinInt}, {-1, math.MaxInt, math.MinInt}, {math.MinInt, 1, math.MinInt + 1},
		{math.MaxInt, math.MinInt, 1}, {1, math.MinInt, math.MaxInt}, {math.MaxInt, -2, math.MaxInt},
	} {
		wantLength(t, []api.Span{times(c.start, c.end)}, c.want)
		wantLength(t, []api.Span{times(c.start, math.MinInt), times(math.MaxInt, c.end)}, c.want)
		wantLength(t, []api.Span{times(math.MaxInt, c.end), times(c.start, c.end), times(c.start, math.MinInt)}, c.want)
	}
}

func TestLengthAsWorded(t *testing.T) {
	for _, start := range edges() {
		for _, end := range edges() {
			l := []api.Span{times(start, end), times(end, start), times(5, 5)}
			for n := range len(l) + 1 {
				wantLength(t, l[:n], lengthByWords(l[:n]))
			}
		}
	}
	drawn(t, 3, 50000, func(r *rand.Rand) {
		l := anySpans(r)
		wantLength(t, l, lengthByWords(l))
	})
	drawn(t, 4, 20, func(r *rand.Rand) {
		l := make([]api.Span, r.Intn(5000))
		for i := range l {
			l[i] = times(int(r.Uint64()), int(r.Uint64()))
		}
		wantLength(t, l, lengthByWords(l))
	})
}
