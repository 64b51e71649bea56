package rate_test

import (
	"math/big"
	"math/rand"
	"testing"

	"telemeter/api"
	"telemeter/prob"
	"telemeter/rate"
)

// The chapter's example.
func TestExample(t *testing.T) {
	wantBy(t, 1, 4, 3<<54)
	wantBy(t, 5, 4, 0)
	wantToward(t, 0, whole-1, 2, 1<<55, api.OK)
}

func TestBy(t *testing.T) {
	for _, c := range []struct{ target, count, want uint64 }{
		{0, 0, 0}, {0, 1, whole}, {0, 2, whole}, {0, greatest, whole}, // of target 0 none is kept
		{1, 0, 0}, {1, 1, 0}, {7, 6, 0}, {7, 7, 0}, {7, 8, 1 << 53}, // below, at and one above the target
		{whole, whole, 0}, {whole, whole + 1, 1}, {1 << 63, 1 << 63, 0},
		{greatest, 0, 0}, {greatest, 1, 0}, {greatest, greatest - 1, 0}, {greatest, greatest, 0}, {greatest - 1, greatest - 1, 0},
		{1, 2, 1 << 55}, {3, 4, 1 << 54}, {5, 8, 3 << 53},
		{1, 3, 0xaaaaaaaaaaaaab}, {2, 3, 0x55555555555556}, {3, 10, 0xb3333333333334}, {9, 10, 0x1999999999999a}, // what doesn't come out even keeps less
		{10, 1000, 0xfd70a3d70a3d71}, {100, 101, 0x288df0cac5b40},
		{1, whole - 1, whole - 1}, {1, whole, whole - 1}, {1, whole + 1, whole}, {1, 2 * whole, whole}, {1, greatest, whole},
		{255, greatest, whole}, {256, greatest, whole - 1}, {whole - 1, whole, 1}, {1 << 63, greatest, 1 << 55},
		{1<<63 - 1, 1 << 63, 1}, {greatest - 1, greatest, 1},
	} {
		wantBy(t, c.target, c.count, c.want)
	}
}

func TestByAsWorded(t *testing.T) {
	check := func(target, count uint64) {
		t.Helper()
		wantBy(t, target, count, byByWords(target, count))
	}
	for _, target := range edges() {
		for _, count := range edges() {
			check(target, count)
		}
		check(target, target-1)
		check(target, target+1)
	}
	for target := range uint64(60) {
		for count := range uint64(90) {
			check(target, count)
		}
	}
	drawn(1, 20000, func(r *rand.Rand) {
		a, b := anyNumber(r), anyNumber(r)
		check(a, b)
		check(b, a)
		check(greatest-a, greatest-uint64(r.Intn(9)))
		check(a, a+uint64(r.Intn(3)))
	})
}

func TestClamp(t *testing.T) {
	const most = greatest
	for _, c := range []struct{ t, low, high, want uint64 }{
		{5, 1, 3, 3}, {5, 6, 9, 6}, {5, 1, 9, 5}, // above high, below low, between
		{5, 5, 9, 5}, {6, 5, 9, 6}, {4, 5, 9, 5}, {9, 5, 9, 9}, {8, 5, 9, 8}, {10, 5, 9, 9}, // at the ends, and beside them
		{5, 5, 5, 5}, {4, 5, 5, 5}, {6, 5, 5, 5},
		{1, 9, 3, 3}, {3, 9, 3, 3}, {5, 9, 3, 3}, {9, 9, 3, 3}, {12, 9, 3, 3}, {0, 1, 0, 0}, // low above high: it is high, always
		{0, 0, 0, 0}, {1, 0, 0, 0}, {most, 0, 0, 0}, {0, most, 0, 0}, {most, most, 0, 0}, {0, most, most, most}, {0, 0, most, 0},
		{most, 0, most, most}, {most, 0, most - 1, most - 1}, {most - 1, most, most, most}, {0, most, most - 1, most - 1},
		{whole, 0, whole, whole}, {whole + 1, 0, whole, whole}, {1 << 63, 1<<63 - 1, 1<<63 + 1, 1 << 63}, // no sign, and no limit but those two
	} {
		wantClamp(t, c.t, c.low, c.high, c.want)
	}
}

func TestClampAsWorded(t *testing.T) {
	some := []uint64{0, 1, 2, 3, 1 << 55, whole - 1, whole, whole + 1, 1<<63 - 1, 1 << 63, greatest - 1, greatest}
	for _, a := range some {
		for _, b := range some {
			for _, c := range some {
				wantClamp(t, a, b, c, clampByWords(a, b, c))
			}
		}
	}
	drawn(2, 20000, func(r *rand.Rand) {
		a, b, c := anyNumber(r), anyNumber(r), anyNumber(r)
		wantClamp(t, a, b, c, clampByWords(a, b, c))
	})
}

func TestToward(t *testing.T) {
	for _, c := range []struct{ from, to, times, want uint64 }{
		{0, 0, 1, 0}, {0, whole - 1, 1, 0}, {0, whole - 1, 3, 0xaaaaaaaaaaaaab}, {0, 1, 2, 1}, {0, 1<<55 + 1, 2, 1 << 55},
		{0, whole - 1, whole - 1, whole - 1}, {0, whole - 1, whole, whole - 1}, {0, whole - 1, greatest, whole - 1}, {0, 0, greatest, 0},
		{1 << 55, 0, 2, 0}, {1 << 55, 0, 3, 0}, {1 << 55, 0, 1, 1 << 55}, {3 << 54, 0, 2, 1 << 55}, {3 << 54, 0, 3, 1 << 54}, {3 << 54, 0, 4, 0}, {3 << 54, 0, 5, 0},
		{whole - 10, whole - 1, 3, whole - 3}, {whole - 10, whole - 2, 3, whole - 3}, {whole - 10, whole - 3, 3, whole - 3}, {whole - 10, whole - 4, 3, whole - 4}, // 10: 3 to 30
		{whole - 10, whole - 10, 3, whole - 10}, {whole - 10, whole - 17, 3, whole - 17},
		{whole - 10, whole - 29, 3, whole - 29}, {whole - 10, whole - 30, 3, whole - 30}, {whole - 10, whole - 31, 3, whole - 30}, {whole - 10, 0, 3, whole - 30},
		{whole - 10, whole - 1, 5, whole - 2}, {whole - 10, whole - 1, 9, whole - 1}, {whole - 10, whole - 1, 10, whole - 1}, // 10 by 5, by 9, by 10
		{whole - 10, whole - 1, 11, whole - 1}, {whole - 10, whole - 1, greatest, whole - 1}, {whole - 10, whole - 2, 11, whole - 2}, // the part is 0: 1 is the least
		{whole - 1, whole - 1, 1, whole - 1}, {whole - 1, whole - 1, 2, whole - 1}, {whole - 1, whole - 2, 1, whole - 1}, {whole - 1, 0, 7, whole - 7},
		{whole - 7, whole - 5, 1, whole - 7}, {whole - 7, whole - 9, 1, whole - 7}, // once as much is as much
	} {
		wantToward(t, c.from, c.to, c.times, c.want, api.OK)
	}
}

// However often, there are no more than 2^56 to be kept; where the product is beyond 2^64 it is above that, too.
func TestTowardBeyond(t *testing.T) {
	for _, c := range []struct{ from, times, want uint64 }{
		{whole - 1, whole - 1, 1}, {whole - 1, whole, 0}, {whole - 1, whole + 1, 0}, {whole - 1, greatest, 0},
		{whole - 3, 24019198012642645, 1}, {whole - 3, 24019198012642646, 0}, // 3 times it is 2^56 - 1, and 2^56 + 2
		{whole - 256, whole, 0}, {whole - 257, whole, 0}, {whole - 255, whole, 0}, // 2^64, and what is beside it
		{whole - 3, 0x5555555555555555, 0}, {whole - 3, 0x5555555555555556, 0}, // 2^64 - 1, 2^64 + 2
		{1 << 55, 1 << 9, 0}, {1 << 55, 1<<9 + 1, 0}, {1 << 55, greatest, 0}, {0, 1 << 8, 0}, {0, 1<<8 + 1, 0}, {1, 257, 0}, {1, greatest, 0},
	} {
		wantToward(t, c.from, 0, c.times, c.want, api.OK)
		wantToward(t, c.from, c.from, c.times, c.from, api.OK)
	}
}

func TestTowardOfNoThreshold(t *testing.T) {
	right := []uint64{0, 1, 1 << 55, whole - 1}
	wrong := []uint64{whole, whole + 1, 2 * whole, 1 << 63, greatest - 1, greatest}
	for _, from := range append(right, wrong...) {
		for _, to := range append(right, wrong...) {
			wantToward(t, from, to, 0, 0, api.ErrArg)
			for _, times := range []uint64{1, 2, whole, greatest} {
				_, e := rate.Toward(from, to, times)
				if want := from >= whole || to >= whole; (e == api.ErrArg) != want {
					t.Errorf("Toward(%#x, %#x, %d): %d", from, to, times, e)
				}
			}
		}
	}
	for _, threshold := range wrong {
		wantToward(t, threshold, 0, 1, 0, api.ErrArg)
		wantToward(t, 0, threshold, 1, 0, api.ErrArg)
		wantToward(t, threshold, threshold, 2, 0, api.ErrArg)
	}
}

// Where so few are kept that all thresholds between can be tried, none is nearer.
func TestTowardIsNearest(t *testing.T) {
	for kept := uint64(1); kept <= 12; kept++ {
		for times := uint64(1); times <= 14; times++ {
			for wanted := uint64(1); wanted <= 180; wanted++ {
				best := kept
				for k := max(kept/times, 1); k <= kept*times; k++ {
					if max(k, wanted)-min(k, wanted) < max(best, wanted)-min(best, wanted) {
						best = k
					}
				}
				wantToward(t, whole-kept, whole-wanted, times, whole-best, api.OK)
			}
		}
	}
}

func TestTowardAsWorded(t *testing.T) {
	check := func(from, to, times uint64) {
		t.Helper()
		want, e := towardByWords(from, to, times)
		wantToward(t, from, to, times, want, e)
	}
	for _, from := range edges() {
		for _, times := range edges() {
			for _, to := range []uint64{0, 1, from - 1, from, from + 1, 1 << 55, whole - 2, whole - 1, whole, greatest} {
				check(from, to, times)
			}
		}
	}
	drawn(3, 30000, func(r *rand.Rand) {
		from, times := anyThreshold(r), 1+anyNumber(r)>>1
		check(from, anyThreshold(r), times)
		check(from, anyThreshold(r), 1+uint64(r.Intn(9)))
		check(anyNumber(r), anyNumber(r), anyNumber(r))
		least, most := boundsByWords(whole-from, times)
		for _, bound := range []*big.Int{least, most} { // at each, and beside it
			check(from, whole-bound.Uint64()-1, times)
			check(from, whole-bound.Uint64(), times)
			check(from, whole-bound.Uint64()+1, times)
		}
	})
}

// Step by step, by any times but 1, one comes to where one goes, and stays; each step is one that has an answer.
func TestTowardComesThere(t *testing.T) {
	drawn(4, 3000, func(r *rand.Rand) {
		at, to, times := anyThreshold(r), anyThreshold(r), 2+anyNumber(r)>>1
		for range 120 {
			next, e := rate.Toward(at, to, times)
			if e != api.OK || max(next, to)-min(next, to) > max(at, to)-min(at, to) || next >= whole {
				t.Fatalf("Toward(%#x, %#x, %d): %#x, %d", at, to, times, next, e)
			}
			at = next
		}
		if at != to {
			t.Errorf("by %d one comes to %#x, not to %#x", times, at, to)
		}
	})
}

// T6: who is kept by any of these thresholds counts, over all numbers, for all; and of a count no more than the target are kept.
func TestByCounts(t *testing.T) {
	check := func(target, count uint64) {
		t.Helper()
		threshold := rate.By(target, count)
		if threshold > whole {
			t.Errorf("By(%d, %d) is %#x", target, count, threshold)
		}
		kept := new(big.Int).Mul(bigOf(prob.Kept(threshold)), bigOf(count))
		if most := new(big.Int).Lsh(bigOf(min(target, count)), 56); kept.Cmp(most) > 0 {
			t.Errorf("By(%d, %d) keeps more than that", target, count)
		} else if kept.Add(kept, bigOf(count)).Cmp(most) < 0 {
			t.Errorf("By(%d, %d) keeps less than it may", target, count)
		}
		num, den, e := prob.Weight(threshold)
		if threshold == whole {
			return
		}
		counted := new(big.Int).Mul(bigOf(prob.Kept(threshold)), bigOf(num))
		if e != api.OK || counted.Cmp(new(big.Int).Lsh(bigOf(den), 56)) != 0 {
			t.Errorf("By(%d, %d): what is kept counts each for %d by %d (%d)", target, count, num, den, e)
		}
	}
	for _, target := range edges() {
		for _, count := range edges() {
			check(target, count)
		}
	}
	drawn(5, 20000, func(r *rand.Rand) { check(anyNumber(r), anyNumber(r)) })
}

// T5: who has the greater target, or the lesser count, keeps all that the other one keeps.
func TestByInOrder(t *testing.T) {
	drawn(6, 20000, func(r *rand.Rand) {
		a, b, c := anyNumber(r), anyNumber(r), anyNumber(r)
		if rate.By(max(a, b), c) > rate.By(min(a, b), c) {
			t.Errorf("of %d, %d has a greater threshold than %d", c, max(a, b), min(a, b))
		}
		if rate.By(c, max(a, b)) < rate.By(c, min(a, b)) {
			t.Errorf("by %d, of %d more are kept than of %d", c, max(a, b), min(a, b))
		}
	})
}
