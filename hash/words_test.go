package hash_test

import (
	"math"
	"math/big"
	"math/rand"
	"testing"

	"telemeter/hash"
)

// What the chapter words, written another way than the program is: the tests hold one against the other.

const greatest = math.MaxUint64

func bigOf(n uint64) *big.Int { return new(big.Int).SetUint64(n) }

// mod64 is what is left of a number without the multiples of 2^64.
func mod64(n *big.Int) *big.Int { return new(big.Int).Mod(n, new(big.Int).Lsh(big.NewInt(1), 64)) }

func hexOf(s string) *big.Int {
	n, ok := new(big.Int).SetString(s, 16)
	if !ok {
		panic(s)
	}
	return n
}

// withPart is a number xor its 2^places-th part, whole.
func withPart(n *big.Int, places int64) *big.Int {
	part := new(big.Int).Div(n, new(big.Int).Exp(big.NewInt(2), big.NewInt(places), nil))
	return part.Xor(part, n)
}

func times(n *big.Int, factor string) *big.Int { return mod64(new(big.Int).Mul(n, hexOf(factor))) }

func mixByWords(x uint64) uint64 {
	n := times(withPart(bigOf(x), 30), "bf58476d1ce4e5b9")
	n = times(withPart(n, 27), "94d049bb133111eb")
	return withPart(n, 31).Uint64()
}

// withoutPart is the number of which n is withPart: from its highest digit on, each is n's xor the one so many places above.
func withoutPart(n *big.Int, places int) *big.Int {
	x := new(big.Int)
	for at := 63; at >= 0; at-- {
		x.SetBit(x, at, n.Bit(at)^x.Bit(at+places))
	}
	return x
}

// untimes is the number of which n is times.
func untimes(n *big.Int, factor string) *big.Int {
	undoes := new(big.Int).ModInverse(hexOf(factor), new(big.Int).Lsh(big.NewInt(1), 64))
	return mod64(undoes.Mul(undoes, n))
}

func backByWords(x uint64) uint64 {
	n := untimes(withoutPart(bigOf(x), 31), "94d049bb133111eb")
	n = untimes(withoutPart(n, 27), "bf58476d1ce4e5b9")
	return withoutPart(n, 30).Uint64()
}

func ofByWords(seed uint64, s string) uint64 {
	n := bigOf(mixByWords(seed))
	for _, c := range []byte(s) {
		n = times(n.Xor(n, big.NewInt(int64(c))), "100000001b3")
	}
	return mixByWords(n.Xor(n, big.NewInt(int64(len(s)))).Uint64())
}

// inByWords tells what is left of Of without the multiples of n.
func inByWords(of uint64, n int) int {
	if n < 1 {
		return 0
	}
	return int(new(big.Int).Mod(bigOf(of), big.NewInt(int64(n))).Int64())
}

// edges: where only one digit is set, or only some of the highest or of the lowest ones, and the neighbours of these.
func edges() []uint64 {
	l := []uint64{0}
	for places := range 64 {
		l = append(l, 1<<places-1, 1<<places, 1<<places+1, greatest<<places, ^uint64(1<<places), greatest>>places)
	}
	for _, places := range []int{27, 30, 31, 33, 34, 37} { // as long as a part is, or as what is ahead of it
		l = append(l, 0x5555555555555555<<places, 0xaaaaaaaaaaaaaaaa>>places, 0x0123456789abcdef<<places, 0xfedcba9876543210>>places)
	}
	return append(l, 0x5555555555555555, 0xaaaaaaaaaaaaaaaa, 0xbf58476d1ce4e5b9, 0x94d049bb133111eb, 0x100000001b3)
}

// counts: the lengths of In's rows that are looked at.
func counts() []int {
	l := []int{math.MinInt, math.MinInt + 1, -1024, -2, -1, 0, 1, 2, 3, 10, 1000, 1023, 1024, 1025, math.MaxInt - 1, math.MaxInt}
	for places := 2; places < 63; places++ {
		l = append(l, 1<<places, 1<<places-1)
	}
	return l
}

func drawn(seed int64, times int, f func(r *rand.Rand)) {
	r := rand.New(rand.NewSource(seed))
	for range times {
		f(r)
	}
}

// anyNumber has any number of digits, at its high or its low end.
func anyNumber(r *rand.Rand) uint64 {
	n := r.Uint64() >> r.Intn(65)
	return n << r.Intn(65)
}

// anyText is of any bytes, most of them bytes that a text's reader could stumble on.
func anyText(r *rand.Rand, most int) string {
	b := make([]byte, r.Intn(most+1))
	for i := range b {
		b[i] = [...]byte{0, 0xff, 0x80, 0xc3, 0xa9, 'a', '\n', byte(r.Intn(256))}[r.Intn(8)]
	}
	return string(b)
}

func wantMix(t *testing.T, x, want uint64) {
	t.Helper()
	if got := hash.Mix(x); got != want {
		t.Errorf("Mix(%#x): %#x; want %#x", x, got, want)
	}
}

func wantBack(t *testing.T, x, want uint64) {
	t.Helper()
	if got := hash.Back(x); got != want {
		t.Errorf("Back(%#x): %#x; want %#x", x, got, want)
	}
}

func wantOf(t *testing.T, seed uint64, s string, want uint64) {
	t.Helper()
	if got := hash.Of(seed, s); got != want {
		t.Errorf("Of(%#x, %.40q) of %d bytes: %#x; want %#x", seed, s, len(s), got, want)
	}
}

func wantIn(t *testing.T, seed uint64, s string, n, want int) {
	t.Helper()
	if got := hash.In(seed, s, n); got != want {
		t.Errorf("In(%#x, %.40q, %d) of %d bytes: %d; want %d", seed, s, n, len(s), got, want)
	}
}
