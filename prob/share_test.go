package prob_test

import (
	"math"
	"math/big"
	"math/rand"
	"testing"

	"telemeter/api"
	"telemeter/prob"
)

// The chapter's example.
func TestExample(t *testing.T) {
	wantThreshold(t, 1, 4, 3<<54, api.OK)
	wantWeight(t, 3<<54, 4, 1, api.OK)
	wantDigits(t, 3<<54, "c", api.OK)
	wantParse(t, "c", 3<<54, api.OK)
}

func TestThreshold(t *testing.T) {
	const most = math.MaxUint64
	for _, c := range []struct{ keep, of, want uint64 }{
		{0, 1, whole}, {0, 7, whole}, {0, most, whole}, // none
		{1, 1, 0}, {7, 7, 0}, {whole, whole, 0}, {1 << 63, 1 << 63, 0}, {most, most, 0}, // all
		{1, 2, 1 << 55}, {3, 4, 1 << 54}, {1, whole, whole - 1}, {whole - 1, whole, 1}, {1, 1 << 57, whole}, {255, 256, 1 << 48},
		{1, 3, 0xaaaaaaaaaaaaab}, {2, 3, 0x55555555555556}, // what doesn't come out even keeps less
		{1, 10, 0xe6666666666667}, {9, 10, 0x1999999999999a}, {1, 7, 0xdb6db6db6db6dc}, {6, 7, 0x24924924924925},
		{1, whole - 1, whole - 1}, {1, whole + 1, whole}, {whole, whole + 1, 1}, {whole - 2, whole - 1, 2},
		{most - 1, most, 1}, {1 << 63, most, 1 << 55}, {1<<63 - 1, most, 1<<55 + 1}, {1, most, whole}, {256, most, whole - 1}, {255, most, whole},
		{most / 3, most, 0xaaaaaaaaaaaaab}, {1<<63 - 1, 1 << 63, 1}, {1 << 62, 1 << 63, 1 << 55},
	} {
		wantThreshold(t, c.keep, c.of, c.want, api.OK)
	}
}

func TestThresholdOfNoShare(t *testing.T) {
	const most = math.MaxUint64
	for _, c := range []struct{ keep, of uint64 }{
		{0, 0}, {1, 0}, {whole, 0}, {most, 0},
		{2, 1}, {5, 4}, {whole + 1, whole}, {1<<63 + 1, 1 << 63}, {most, most - 1}, {most, 1}, {most, 255}, {256, 1}, {257, 1}, {1 << 63, 1},
	} {
		wantThreshold(t, c.keep, c.of, 0, api.ErrArg)
	}
}

func TestThresholdAsWorded(t *testing.T) {
	check := func(keep, of uint64) {
		t.Helper()
		want, e := thresholdByWords(keep, of)
		wantThreshold(t, keep, of, want, e)
	}
	for _, keep := range edges() {
		for _, of := range edges() {
			check(keep, of)
		}
	}
	for of := range uint64(60) {
		for keep := range of + 2 {
			check(keep, of)
		}
	}
	drawn(11, 20000, func(r *rand.Rand) {
		a, b := anyNumber(r), anyNumber(r)
		check(a, b)
		check(b, a)
		check(math.MaxUint64-a, math.MaxUint64-uint64(r.Intn(9)))
	})
}

// No more than keep of so many are kept, and a threshold that is one less keeps more.
func TestThresholdKeepsTheShare(t *testing.T) {
	check := func(keep, of uint64) {
		t.Helper()
		threshold, e := prob.Threshold(keep, of)
		if e != api.OK || threshold > whole {
			t.Errorf("Threshold(%d, %d): %#x, %d", keep, of, threshold, e)
			return
		}
		wanted := wholeTimes(keep)
		if new(big.Int).Mul(bigOf(prob.Kept(threshold)), bigOf(of)).Cmp(wanted) > 0 {
			t.Errorf("%#x keeps more than %d of %d", threshold, keep, of)
		}
		if threshold > 0 && new(big.Int).Mul(bigOf(prob.Kept(threshold-1)), bigOf(of)).Cmp(wanted) <= 0 {
			t.Errorf("%#x, for %d of %d, is not the least", threshold, keep, of)
		}
	}
	for _, keep := range edges() {
		for _, of := range edges() {
			if of > 0 && keep <= of {
				check(keep, of)
			}
		}
	}
	drawn(12, 20000, func(r *rand.Rand) {
		a, b := anyNumber(r)|1, anyNumber(r)|1
		check(min(a, b), max(a, b))
	})
}

func TestWeight(t *testing.T) {
	for _, c := range []struct{ t, num, den uint64 }{
		{0, 1, 1},
		{1, whole, whole - 1},
		{2, 1 << 55, 1<<55 - 1},
		{3, whole, whole - 3},
		{4, 1 << 54, 1<<54 - 1},
		{6, 1 << 55, 1<<55 - 3},
		{1 << 54, 4, 3},
		{1 << 55, 2, 1},
		{1<<55 - 1, whole, 1<<55 + 1},
		{1<<55 + 1, whole, 1<<55 - 1},
		{3 << 54, 4, 1},
		{5 << 53, 8, 3},
		{0xff << 48, 256, 1},
		{whole - 3, whole, 3},
		{whole - 2, 1 << 55, 1},
		{whole - 1, whole, 1},
	} {
		wantWeight(t, c.t, c.num, c.den, api.OK)
	}
	for _, threshold := range []uint64{whole, whole + 1, whole + 2, 3 << 55, 2 * whole, 1 << 63, math.MaxUint64 - 1, math.MaxUint64} {
		wantWeight(t, threshold, 0, 0, api.ErrArg)
	}
}

func TestWeightAsWorded(t *testing.T) {
	check := func(threshold uint64) {
		t.Helper()
		num, den, e := weightByWords(threshold)
		wantWeight(t, threshold, num, den, e)
	}
	for _, threshold := range edges() {
		check(threshold)
		check(-threshold)
	}
	drawn(13, 20000, func(r *rand.Rand) {
		check(anyThreshold(r))
		check(whole - anyThreshold(r))
		check(anyNumber(r))
	})
}

// The parts of a share's weight have no divisor in common, and one that is kept counts for no less than of by keep.
func TestWeightOfShares(t *testing.T) {
	check := func(keep, of uint64) {
		t.Helper()
		threshold, e := prob.Threshold(keep, of)
		if e != api.OK {
			t.Errorf("Threshold(%d, %d): %d", keep, of, e)
		}
		num, den, e := prob.Weight(threshold)
		if threshold == whole {
			wantWeight(t, threshold, 0, 0, api.ErrArg)
			return
		}
		if e != api.OK || num == 0 || den == 0 || num < den {
			t.Errorf("Weight(%#x): %d, %d, %d", threshold, num, den, e)
			return
		}
		if common := new(big.Int).GCD(nil, nil, bigOf(num), bigOf(den)); common.Cmp(big.NewInt(1)) != 0 {
			t.Errorf("Weight(%#x): %s divides %d and %d", threshold, common, num, den)
		}
		if new(big.Int).Mul(bigOf(num), bigOf(keep)).Cmp(new(big.Int).Mul(bigOf(den), bigOf(of))) < 0 {
			t.Errorf("Weight(%#x): %d by %d is less than %d by %d", threshold, num, den, of, keep)
		}
	}
	for of := uint64(1); of < 70; of++ {
		for keep := range of + 1 {
			check(keep, of)
		}
	}
	drawn(14, 20000, func(r *rand.Rand) {
		a, b := anyNumber(r)|1, anyNumber(r)|1
		check(min(a, b), max(a, b))
	})
}
