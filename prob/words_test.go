package prob_test

import (
	"fmt"
	"math"
	"math/big"
	"math/rand"
	"regexp"
	"strconv"
	"strings"
	"testing"

	"telemeter/api"
	"telemeter/prob"
)

// What the chapter words, written another way than the program is: the tests hold one against the other.

const whole = 72057594037927936

func bigOf(n uint64) *big.Int { return new(big.Int).SetUint64(n) }

func keepByWords(r, t uint64) bool {
	return bigOf(r).BitLen() <= 56 && bigOf(r).Cmp(bigOf(t)) >= 0
}

func numberByWords(s api.Span) uint64 {
	less := new(big.Int).Sub(bigOf(s.Rv), big.NewInt(1))
	if less.Sign() >= 0 && less.BitLen() <= 56 {
		return less.Uint64()
	}
	low, err := strconv.ParseUint(fmt.Sprintf("%064b", s.Lo)[8:], 2, 64)
	if err != nil {
		panic(err)
	}
	return low
}

// wholeTimes is 2^56 times a number.
func wholeTimes(n uint64) *big.Int {
	return new(big.Int).Lsh(bigOf(n), 56)
}

func thresholdByWords(keep, of uint64) (uint64, api.Errno) {
	if of == 0 || keep > of {
		return 0, api.ErrArg
	}
	part := new(big.Int).Div(wholeTimes(keep), bigOf(of))
	return new(big.Int).Sub(bigOf(whole), part).Uint64(), api.OK
}

func weightByWords(t uint64) (uint64, uint64, api.Errno) {
	if t>>56 > 0 {
		return 0, 0, api.ErrArg
	}
	share := big.NewRat(whole, int64(whole-t))
	return share.Num().Uint64(), share.Denom().Uint64(), api.OK
}

func keptByWords(t uint64) uint64 {
	if t>>56 > 0 {
		return 0
	}
	return whole - t
}

func digitsByWords(t uint64) (string, api.Errno) {
	if t>>56 > 0 {
		return "", api.ErrArg
	}
	s := fmt.Sprintf("%014x", t)
	for len(s) > 1 && strings.HasSuffix(s, "0") {
		s = s[:len(s)-1]
	}
	return s, api.OK
}

var thresholdText = regexp.MustCompile(`\A[0-9a-f]{1,14}\z`)

func parseByWords(s string) (uint64, api.Errno) {
	if !thresholdText.MatchString(s) {
		return 0, api.ErrForm
	}
	t, err := strconv.ParseUint((s + strings.Repeat("0", 14))[:14], 16, 64)
	if err != nil {
		panic(err)
	}
	return t, api.OK
}

// edges: where a number has a digit more, of any kind, and its neighbours.
func edges() []uint64 {
	l := []uint64{0, 1, 2, math.MaxUint64 - 1, math.MaxUint64}
	for shift := 2; shift < 64; shift++ {
		l = append(l, 1<<shift-1, 1<<shift, 1<<shift+1)
	}
	return append(l, whole-2, whole+2, 3<<54, 5<<53, 3*whole-1, 3*whole, 10, 100, 1000, 1e9+7)
}

func drawn(seed int64, times int, f func(r *rand.Rand)) {
	r := rand.New(rand.NewSource(seed))
	for range times {
		f(r)
	}
}

// anyNumber has any number of digits, as often one as another.
func anyNumber(r *rand.Rand) uint64 { return r.Uint64() >> r.Intn(65) }

// anyThreshold is below 2^56, and has noughts at its end, as often some as others.
func anyThreshold(r *rand.Rand) uint64 {
	t := r.Uint64() % whole >> r.Intn(57)
	return t << r.Intn(57) % whole
}

func wantKeep(t *testing.T, r, threshold uint64, want bool) {
	t.Helper()
	if got := prob.Keep(r, threshold); got != want {
		t.Errorf("Keep(%#x, %#x): %t; want %t", r, threshold, got, want)
	}
}

func wantNumber(t *testing.T, s api.Span, want uint64) {
	t.Helper()
	if got := prob.Number(s); got != want {
		t.Errorf("Number(%+v): %#x; want %#x", s, got, want)
	}
}

func wantThreshold(t *testing.T, keep, of, want uint64, e api.Errno) {
	t.Helper()
	if got, gotE := prob.Threshold(keep, of); got != want || gotE != e {
		t.Errorf("Threshold(%d, %d): %#x, %d; want %#x, %d", keep, of, got, gotE, want, e)
	}
}

func wantWeight(t *testing.T, threshold, num, den uint64, e api.Errno) {
	t.Helper()
	gotNum, gotDen, gotE := prob.Weight(threshold)
	if gotNum != num || gotDen != den || gotE != e {
		t.Errorf("Weight(%#x): %d, %d, %d; want %d, %d, %d", threshold, gotNum, gotDen, gotE, num, den, e)
	}
}

func wantKept(t *testing.T, threshold, want uint64) {
	t.Helper()
	if got := prob.Kept(threshold); got != want {
		t.Errorf("Kept(%#x): %d; want %d", threshold, got, want)
	}
}

func wantDigits(t *testing.T, threshold uint64, want string, e api.Errno) {
	t.Helper()
	if got, gotE := prob.Digits(threshold); got != want || gotE != e {
		t.Errorf("Digits(%#x): %q, %d; want %q, %d", threshold, got, gotE, want, e)
	}
}

func wantParse(t *testing.T, s string, want uint64, e api.Errno) {
	t.Helper()
	if got, gotE := prob.Parse(s); got != want || gotE != e {
		t.Errorf("Parse(%.80q): %#x, %d; want %#x, %d", s, got, gotE, want, e)
	}
}
