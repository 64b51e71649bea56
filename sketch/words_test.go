package sketch_test

import (
	"math"
	"math/big"
	"math/rand"
	"testing"

	"telemeter/hash"
	"telemeter/sketch"
)

// What the chapter words, written another way than the program is: the tests hold one against the other.

const greatest = math.MaxUint64

func bigOf(n uint64) *big.Int { return new(big.Int).SetUint64(n) }

// atMost is a number, or 2^64 - 1, if it is more.
func atMost(n *big.Int) *big.Int {
	if n.Cmp(bigOf(greatest)) > 0 {
		return bigOf(greatest)
	}
	return n
}

type cell struct{ row, at int }

// shape is what a sketch is made by.
type shape struct {
	rows, width int
	seed        uint64
}

func (f shape) made() *sketch.Sketch { return sketch.New(f.rows, f.width, f.seed) }

// cells are a key's, row by row.
func (f shape) cells(key string) []cell {
	var l []cell
	for i := 0; i < f.rows; i++ {
		seed := new(big.Int).Add(bigOf(f.seed), big.NewInt(int64(i)))
		seed.Mod(seed, new(big.Int).Lsh(big.NewInt(1), 64))
		l = append(l, cell{i, hash.In(seed.Uint64(), key, f.width)})
	}
	return l
}

// byWords holds the cells that are not 0, what each key was added, and what all were.
type byWords struct {
	shape
	held  map[cell]*big.Int
	added map[string]*big.Int
	all   *big.Int
}

func wordsOf(f shape) *byWords {
	return &byWords{f, map[cell]*big.Int{}, map[string]*big.Int{}, new(big.Int)}
}

func (w *byWords) holds(c cell) *big.Int {
	if n := w.held[c]; n != nil {
		return n
	}
	return new(big.Int)
}

func (w *byWords) count(key string) *big.Int {
	cells := w.cells(key)
	least := w.holds(cells[0])
	for _, c := range cells[1:] {
		if n := w.holds(c); n.Cmp(least) < 0 {
			least = n
		}
	}
	return least
}

func (w *byWords) add(key string, n uint64) {
	m := atMost(new(big.Int).Add(w.count(key), bigOf(n)))
	for _, c := range w.cells(key) {
		if w.holds(c).Cmp(m) < 0 {
			w.held[c] = m
		}
	}
	w.added[key] = new(big.Int).Add(w.often(key), bigOf(n))
	w.all.Add(w.all, bigOf(n))
}

// often is how often a key was added, however much that is.
func (w *byWords) often(key string) *big.Int {
	if n := w.added[key]; n != nil {
		return n
	}
	return new(big.Int)
}

// apart says whether a row has no two of the keys in one cell.
func (f shape) apart(keys []string) bool {
	for i := range f.rows {
		taken := map[cell]string{}
		for _, key := range keys {
			taken[f.cells(key)[i]] = key
		}
		if len(taken) == len(keys) {
			return true
		}
	}
	return false
}

// someKeys are unlike: the empty one, some with bytes 0 in them, some that are not right as runes, a long one.
func someKeys() []string {
	long := make([]byte, 600)
	return []string{"", "a", "b", "c", "d", "e", "f", "g", "h", "ab", "ba", "a\x00", "\x00a", "\x00", "\x00\x00", "\xff", "\xc3", "é", "日本", "\u2028", "the key of a log", string(long)}
}

func drawn(seed int64, times int, f func(r *rand.Rand)) {
	r := rand.New(rand.NewSource(seed))
	for range times {
		f(r)
	}
}

// anyNumber has any number of digits, at its high or its low end.
func anyNumber(r *rand.Rand) uint64 {
	n := r.Uint64() >> r.Intn(65)
	return n << r.Intn(65)
}

func anyKey(r *rand.Rand) string {
	if few := someKeys(); r.Intn(4) > 0 {
		return few[r.Intn(len(few))]
	}
	b := make([]byte, r.Intn(30))
	for i := range b {
		b[i] = byte(r.Intn(256))
	}
	return string(b)
}

// anyShape has few cells more often than many, and seeds from which the rows' own go beyond the greatest.
func anyShape(r *rand.Rand) shape {
	width := 1 + r.Intn([]int{2, 5, 30, 1024}[r.Intn(4)])
	seed := anyNumber(r)
	if r.Intn(4) == 0 {
		seed = greatest - uint64(r.Intn(8))
	}
	return shape{1 + r.Intn(8), width, seed}
}

// anyTimes is none, few, or so many that a few of them reach the greatest number.
func anyTimes(r *rand.Rand) uint64 {
	switch r.Intn(8) {
	case 0:
		return 0
	case 1:
		return anyNumber(r)
	case 2:
		return greatest - uint64(r.Intn(3))
	}
	return uint64(r.Intn(100))
}

// pair is a sketch and what the words have it hold.
type pair struct {
	s *sketch.Sketch
	w *byWords
}

func pairOf(f shape) pair { return pair{f.made(), wordsOf(f)} }

func (p pair) add(key string, n uint64) {
	p.s.Add(key, n)
	p.w.add(key, n)
}

func (p pair) copied() pair {
	w := wordsOf(p.w.shape)
	for c, n := range p.w.held {
		w.held[c] = n
	}
	for key, n := range p.w.added {
		w.added[key] = n
	}
	w.all.Set(p.w.all)
	return pair{p.s.Copy(), w}
}

// anyPair has been added any keys, at most so often.
func anyPair(r *rand.Rand, most int) pair {
	p := pairOf(anyShape(r))
	for range r.Intn(most) {
		p.add(anyKey(r), anyTimes(r))
	}
	return p
}

// someShapes: the edges of the rows, the width and the seed, and what is between.
func someShapes() []shape {
	var l []shape
	for _, rows := range []int{1, 2, 3, 7, 8} {
		for _, width := range []int{1, 2, 3, 10, 1023, 1024} {
			for _, seed := range []uint64{0, 1, 1 << 63, greatest - 3, greatest} {
				l = append(l, shape{rows, width, seed})
			}
		}
	}
	return l
}

func wantCount(t *testing.T, s *sketch.Sketch, key string, want uint64) {
	t.Helper()
	if got := s.Count(key); got != want {
		t.Errorf("Count(%.40q): %d; want %d", key, got, want)
	}
}

func wantTotal(t *testing.T, s *sketch.Sketch, want uint64) {
	t.Helper()
	if got := s.Total(); got != want {
		t.Errorf("Total: %d; want %d", got, want)
	}
}

// wantAsWorded: all that the sketch answers is as the words have it, of keys that were added and of others.
func wantAsWorded(t *testing.T, s *sketch.Sketch, w *byWords) {
	t.Helper()
	for _, key := range someKeys() {
		wantCount(t, s, key, w.count(key).Uint64())
	}
	for key := range w.added {
		wantCount(t, s, key, w.count(key).Uint64())
	}
	wantTotal(t, s, atMost(w.all).Uint64())
	if t.Failed() {
		t.Fatalf("rows %d, width %d, seed %#x", w.rows, w.width, w.seed)
	}
}
