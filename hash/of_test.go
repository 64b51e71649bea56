package hash_test

import (
	"hash/fnv"
	"math"
	"math/rand"
	"strings"
	"testing"

	"telemeter/hash"
)

// someTexts: the empty one, each byte alone, some with bytes 0 in them, some that are not right as runes, long ones.
func someTexts() []string {
	l := []string{"", "ab", "ba", "the key of a log", "a\x00b", "a\x00", "\x00a", "\x00\x00", "\xff\xff", "é", "\xc3", "\xa9\xc3", "\xff\xfe\x00\x80", "日本", "\u2028", "\ufffd", "\xed\xa0\x80"}
	for c := range 256 {
		l = append(l, string([]byte{byte(c)}))
	}
	for _, size := range []int{7, 8, 9, 60, 63, 64, 65, 200, 255, 256, 257, 4096, 5000, 70000} {
		l = append(l, strings.Repeat("a", size), strings.Repeat("\x00", size), strings.Repeat("k\xff\x00", size)[:size])
	}
	return l
}

func eachByte() []uint64 {
	var l []uint64
	for c := range uint64(256) {
		l = append(l, c)
	}
	return l
}

func seeds() []uint64 {
	return []uint64{0, 1, 2, 3, 0xcbf29ce484222325, 1 << 32, 1 << 63, greatest - 1, greatest}
}

// Texts whose numbers were worked out apart from the program.
func TestOf(t *testing.T) {
	for _, c := range []struct {
		seed uint64
		s    string
		want uint64
	}{
		{0, "", 0},
		{0, "a", 0x2e1e2ad3102ca02a},
		{0, "ab", 0xe9c6e902f080bed4},
		{0, "ba", 0x7e0d725f96c7af94},
		{0, "\xff", 0x74a27a2f97e83d47},
		{0, "\xc3\xa9", 0xc59c7a61ce30f3a1},
		{0, "a\x00b", 0x17b2a9541c8c2fb1},
		{0, "the key of a log", 0x4460fd2028476ce2},
		{0, strings.Repeat("a", 1000), 0x63930678878de335},
		{1, "", 0x7ab40e090f363a7d},
		{1, "a", 0xaba2f6065dcf0eda},
		{1, "\x00", 0xc2d8e5c82e8d865d},
		{3, "x", 0x972d33f74ada9797},
		{3, "the key of a log", 0x6fcffbe8aad088b1},
		{greatest, "", 0x4bffd802ebfb15e4},
		{greatest, "a", 0xc4abc04c5190c53f},
		{greatest, "ab", 0x002002128e6584a0},
		{greatest, "\x00\x00", 0x059c3ba4465a12f8},
		{greatest, "\xff", 0xfa9181a017f48998},
		{greatest, strings.Repeat("a", 1000), 0x4cf924c587c939a8},
	} {
		wantOf(t, c.seed, c.s, c.want)
	}
}

func TestOfAsWorded(t *testing.T) {
	for _, s := range someTexts() {
		for _, seed := range seeds() {
			if len(s) <= 5000 || seed == 0 || seed == greatest { // the longest take the words' way a while
				wantOf(t, seed, s, ofByWords(seed, s))
			}
		}
	}
	for _, seed := range edges() {
		wantOf(t, seed, "k", ofByWords(seed, "k"))
		wantOf(t, seed, "", ofByWords(seed, ""))
	}
	drawn(5, 5000, func(r *rand.Rand) {
		seed, s := anyNumber(r), anyText(r, 80)
		wantOf(t, seed, s, ofByWords(seed, s))
	})
}

// From a seed that is mixed to what it begins with, the library's hash of a text is what is mixed at the end, but for the length.
func TestOfAgainstLibrary(t *testing.T) {
	begins := fnv.New64a().Sum64()
	check := func(s string) {
		t.Helper()
		h := fnv.New64a()
		h.Write([]byte(s))
		wantOf(t, backByWords(begins), s, mixByWords(h.Sum64()^uint64(len(s))))
	}
	for _, s := range someTexts() {
		check(s)
	}
	check(strings.Repeat("long \x00\xff\n", 1<<18))
	drawn(6, 5000, func(r *rand.Rand) { check(anyText(r, 300)) })
}

// By seed 0 bytes 0 leave nothing but how many they are; so it is of the empty text by any seed.
func TestOfNoughts(t *testing.T) {
	for size := range 300 {
		wantOf(t, 0, strings.Repeat("\x00", size), mixByWords(uint64(size)))
	}
	wantOf(t, 0, strings.Repeat("\x00", 1<<22), mixByWords(1<<22))
	for _, seed := range edges() {
		wantOf(t, seed, "", mixByWords(mixByWords(seed)))
	}
}

// Seeds that are unlike tell unlike numbers of one text, and texts of which one byte is unlike do by one seed: nothing of either is lost on the way.
func TestOfUnlike(t *testing.T) {
	for _, s := range []string{"", "\x00", "a", "a\x00b", "the key of a log", strings.Repeat("\xff", 300)} {
		all := edges()
		drawn(7, 5000, func(r *rand.Rand) { all = append(all, r.Uint64()) })
		wantUnlike(t, "Of by seeds", all, func(seed uint64) uint64 { return hash.Of(seed, s) })
		for _, seed := range seeds() {
			for at := range min(len(s), 20) {
				b := []byte(s)
				wantUnlike(t, "Of by a byte", eachByte(), func(c uint64) uint64 {
					b[at] = byte(c)
					return hash.Of(seed, string(b))
				})
			}
		}
	}
}

func TestIn(t *testing.T) {
	for _, c := range []struct {
		seed uint64
		s    string
		n    int
		want int
	}{
		{3, "x", 1, 0}, {0, "", 1, 0}, {greatest, "a", 1, 0}, // the chapter's example
		{3, "x", 0, 0}, {3, "x", -1, 0}, {3, "x", -10, 0}, {3, "x", math.MinInt, 0}, {0, "", 0, 0}, {greatest, "a", math.MinInt + 1, 0},
		{3, "x", 2, 1}, {3, "x", 10, 3}, {3, "x", 16, 7}, {3, "x", 1000, 183}, {3, "x", 1024, 919},
		{0, "a", 2, 0}, {0, "a", 10, 6}, {0, "a", 16, 10}, {0, "a", 1000, 826}, {0, "a", 1024, 42},
		{greatest, "\xff", 2, 0}, {greatest, "\xff", 10, 0}, {greatest, "\xff", 16, 8}, {greatest, "\xff", 1000, 560}, {greatest, "\xff", 1024, 408},
		{3, "x", math.MaxInt, 0x172d33f74ada9798}, // a number of 64 digits, one multiple less
		{greatest, "ab", math.MaxInt, 0x002002128e6584a0},
		{0, "", math.MaxInt, 0},
		{3, "x", 1 << 62, 0x172d33f74ada9797},
	} {
		wantIn(t, c.seed, c.s, c.n, c.want)
	}
}

func TestInAsWorded(t *testing.T) {
	for _, s := range someTexts() {
		if len(s) > 300 {
			continue
		}
		for _, seed := range []uint64{0, 3, greatest} {
			of := ofByWords(seed, s)
			for _, n := range counts() {
				wantIn(t, seed, s, n, inByWords(of, n))
			}
		}
	}
	drawn(8, 5000, func(r *rand.Rand) {
		seed, s := anyNumber(r), anyText(r, 80)
		of, n := ofByWords(seed, s), int(anyNumber(r))
		wantIn(t, seed, s, n, inByWords(of, n))
		width := 1 + r.Intn(1024)
		wantIn(t, seed, s, width, inByWords(of, width))
	})
}

// T7: no texts make a call panic, whatever the seed and the n; asked again, a call answers the same.
func TestAnyTexts(t *testing.T) {
	drawn(9, 20000, func(r *rand.Rand) {
		seed, s, n := anyNumber(r), anyText(r, 300), int(anyNumber(r))
		of, in := hash.Of(seed, s), hash.In(seed, s, n)
		if in < 0 || in > 0 && in >= n {
			t.Errorf("In(%#x, %q, %d): %d", seed, s, n, in)
		}
		hash.Of(^seed, s+"x") // what is asked between counts for nothing
		wantOf(t, seed, strings.Clone(s), of)
		wantIn(t, seed, strings.Clone(s), n, in)
	})
}
