package hash_test

import (
	"math/rand"
	"slices"
	"testing"

	"telemeter/hash"
)

// someMixed are numbers and what they are mixed to, worked out apart from the program; from the sixth on they are what a
// well-known generator of draws tells, which mixes a seed and the multiples of 9e3779b97f4a7c15 so.
func someMixed() [][2]uint64 {
	return [][2]uint64{
		{0, 0}, // the chapter's example
		{1, 0x5692161d100b05e5},
		{2, 0xdbd238973a2b148a},
		{1 << 63, 0x25c26ea579cea98a},
		{greatest, 0xb4d055fcf2cbbd7b},
		{0x9e3779b97f4a7c15, 0xe220a8397b1dcdaf},
		{0x3c6ef372fe94f82a, 0x6e789e6aa1b965f4},
		{0xdaa66d2c7ddf743f, 0x06c45d188009454f},
		{1234567 + 0x9e3779b97f4a7c15, 6457827717110365317},
		{1234567 + 0x3c6ef372fe94f82a, 3203168211198807973},
		{1234567 + 0xdaa66d2c7ddf743f, 9817491932198370423},
	}
}

func TestMix(t *testing.T) {
	for _, c := range someMixed() {
		wantMix(t, c[0], c[1])
	}
}

func TestBack(t *testing.T) {
	for _, c := range someMixed() {
		wantBack(t, c[1], c[0])
	}
}

func TestMixAndBackAsWorded(t *testing.T) {
	check := func(x uint64) {
		t.Helper()
		wantMix(t, x, mixByWords(x))
		wantBack(t, x, backByWords(x))
	}
	for _, x := range edges() {
		check(x)
	}
	drawn(1, 20000, func(r *rand.Rand) {
		check(r.Uint64())
		check(anyNumber(r))
	})
}

func wantThereAndBack(t *testing.T, x uint64) {
	t.Helper()
	wantBack(t, hash.Mix(x), x)
	wantMix(t, hash.Back(x), x)
}

func TestThereAndBack(t *testing.T) {
	for _, x := range edges() {
		wantThereAndBack(t, x)
	}
	for x := range uint64(1 << 16) { // each of the highest digits, and of the lowest ones
		wantThereAndBack(t, x)
		wantThereAndBack(t, x<<48)
		wantThereAndBack(t, greatest-x)
	}
	drawn(2, 200000, func(r *rand.Rand) {
		wantThereAndBack(t, r.Uint64())
		wantThereAndBack(t, anyNumber(r))
	})
}

// wantUnlike: unlike numbers go to unlike ones.
func wantUnlike(t *testing.T, what string, numbers []uint64, to func(uint64) uint64) {
	t.Helper()
	slices.Sort(numbers)
	numbers = slices.Compact(numbers)
	var all []uint64
	for _, x := range numbers {
		all = append(all, to(x))
	}
	slices.Sort(all)
	if some := len(slices.Compact(all)); some != len(numbers) {
		t.Errorf("%s: %d numbers go to %d", what, len(numbers), some)
	}
}

// No two numbers are mixed to one: not near ones, not drawn ones.
func TestUnlikeAreMixedToUnlike(t *testing.T) {
	near := []uint64{}
	for x := range uint64(1 << 17) {
		near = append(near, x, greatest-x, x<<47, 1<<32*x+x)
	}
	far := edges()
	drawn(3, 1<<18, func(r *rand.Rand) { far = append(far, r.Uint64(), anyNumber(r)) })
	for _, numbers := range [][]uint64{edges(), near, far} {
		wantUnlike(t, "Mix", numbers, hash.Mix)
		wantUnlike(t, "Back", numbers, hash.Back)
	}
}

// Numbers of which one or two digits are unlike are mixed to unlike ones.
func TestOneDigitMakesUnlike(t *testing.T) {
	drawn(4, 500, func(r *rand.Rand) {
		x := anyNumber(r)
		near := []uint64{x}
		for one := range 64 {
			for other := range 64 {
				near = append(near, x^1<<one, x^1<<one^1<<other)
			}
		}
		wantUnlike(t, "Mix", near, hash.Mix)
		wantUnlike(t, "Back", near, hash.Back)
	})
}
