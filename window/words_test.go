package window_test

import (
	"math"
	"math/big"
	"math/rand"
	"testing"

	"telemeter/api"
	"telemeter/sketch"
	"telemeter/window"
)

// What the chapter words, written another way than the program is: the tests hold one against the other.

const (
	greatest = math.MaxUint64
	last     = 1 << 40 // the last time that there is
)

// shape is what a window is made by.
type shape struct {
	rows, width int
	seed        uint64
	long        int
}

func (f shape) made() *window.Window { return window.New(f.rows, f.width, f.seed, f.long) }

// wide is one of whiles so long, in whose sketches a row has the tests' keys apart: they are counted right.
func wide(long int) shape { return shape{8, 1024, 5, long} }

// while tells which one a time is in: the one whose first time is not behind it, and the next one's is.
func (f shape) while(now int) *big.Int {
	return new(big.Int).Div(big.NewInt(int64(now)), big.NewInt(int64(f.long)))
}

// blank is the sketch of a while in which nothing was added.
func (f shape) blank(while *big.Int) *sketch.Sketch {
	seed := new(big.Int).SetUint64(f.seed)
	seed.Add(seed, while)
	seed.Mod(seed, new(big.Int).Lsh(big.NewInt(1), 64))
	return sketch.New(f.rows, f.width, seed.Uint64())
}

// byWords holds the sketches of all whiles in which something was added, and the latest time; and what each key was added, by whiles.
type byWords struct {
	shape
	latest int
	all    map[string]*sketch.Sketch
	added  map[string]*big.Int
}

func wordsOf(f shape) *byWords {
	return &byWords{f, 0, map[string]*sketch.Sketch{}, map[string]*big.Int{}}
}

func (w *byWords) time(now int) api.Errno {
	if now < w.latest || now > last {
		return api.ErrTime
	}
	w.latest = now
	return api.OK
}

func (w *byWords) add(now int, key string, n uint64) api.Errno {
	e := w.time(now)
	if e == api.OK {
		k := w.while(now)
		if w.all[k.String()] == nil {
			w.all[k.String()] = w.blank(k)
		}
		w.all[k.String()].Add(key, n)
		w.added[k.String()+" "+key] = new(big.Int).Add(w.often(k, key), new(big.Int).SetUint64(n))
	}
	return e
}

func (w *byWords) open(now int, key string) (uint64, api.Errno) {
	if e := w.time(now); e != api.OK {
		return 0, e
	}
	return w.count(w.while(now), key), api.OK
}

func (w *byWords) closed(now int, key string) (uint64, api.Errno) {
	if e := w.time(now); e != api.OK {
		return 0, e
	}
	return w.count(w.ahead(now), key), api.OK
}

// ahead is the number of the while ahead of a time's: -1, if there is none.
func (w *byWords) ahead(now int) *big.Int {
	return new(big.Int).Sub(w.while(now), big.NewInt(1))
}

func (w *byWords) count(while *big.Int, key string) uint64 {
	if s := w.all[while.String()]; s != nil {
		return s.Count(key)
	}
	return 0
}

// often is how often a key was added in a while, however much that is.
func (w *byWords) often(while *big.Int, key string) *big.Int {
	if n := w.added[while.String()+" "+key]; n != nil {
		return n
	}
	return new(big.Int)
}

// atMost is a number, or 2^64 - 1, if it is more.
func atMost(n *big.Int) uint64 {
	if n.IsUint64() {
		return n.Uint64()
	}
	return greatest
}

func someKeys() []string {
	long := make([]byte, 600)
	return []string{"", "a", "b", "c", "d", "e", "f", "g", "h", "ab", "a\x00", "\x00", "\xff", "é", "日本", "the key of a log", string(long)}
}

// someShapes: the edges of what a window is made by, and what is between.
func someShapes() []shape {
	var l []shape
	for _, long := range []int{1, 2, 3, 10, 1000, 1 << 39, last - 1, last} {
		for _, seed := range []uint64{0, 1 << 63, greatest - 1, greatest} {
			l = append(l, shape{1, 1, seed, long}, shape{2, 3, seed, long}, shape{8, 2, seed, long}, shape{3, 1024, seed, long})
		}
	}
	return l
}

// wrongTimes are right for no window.
func wrongTimes() []int {
	return []int{math.MinInt, math.MinInt + 1, -last, -10, -2, -1, last + 1, last + 2, 1 << 41, 1 << 62, math.MaxInt - 1, math.MaxInt}
}

func drawn(seed int64, times int, f func(r *rand.Rand)) {
	r := rand.New(rand.NewSource(seed))
	for range times {
		f(r)
	}
}

// anyNumber has any number of digits, at its high or its low end.
func anyNumber(r *rand.Rand) uint64 {
	n := r.Uint64() >> r.Intn(65)
	return n << r.Intn(65)
}

func anyKey(r *rand.Rand) string {
	if few := someKeys(); r.Intn(5) > 0 {
		return few[r.Intn(len(few))]
	}
	b := make([]byte, r.Intn(30))
	for i := range b {
		b[i] = byte(r.Intn(256))
	}
	return string(b)
}

// anyShape has few cells and short whiles more often than many and long ones, and seeds from which the whiles' own go beyond the greatest.
func anyShape(r *rand.Rand) shape {
	width := 1 + r.Intn([]int{2, 5, 30, 1024}[r.Intn(4)])
	seed := anyNumber(r)
	if r.Intn(3) == 0 {
		seed = greatest - uint64(r.Intn(12))
	}
	long := 1 + r.Intn([]int{3, 20, 1000, last}[r.Intn(4)])
	return shape{1 + r.Intn(8), width, seed, long}
}

// anyTimes is none, few, or so many that a few of them reach the greatest number.
func anyTimes(r *rand.Rand) uint64 {
	switch r.Intn(8) {
	case 0:
		return 0
	case 1:
		return anyNumber(r)
	case 2:
		return greatest - uint64(r.Intn(3))
	}
	return uint64(r.Intn(100))
}

// pair is a window and what the words have it hold.
type pair struct {
	is *window.Window
	w  *byWords
}

func pairOf(f shape) pair { return pair{f.made(), wordsOf(f)} }

// anyTime is most often a time in the latest one's while or in one of the next; sometimes one far behind it, or one that is wrong.
func (p pair) anyTime(r *rand.Rand) int {
	long := p.w.long
	edge := p.w.latest - p.w.latest%long
	switch r.Intn(12) {
	case 0:
		return wrongTimes()[r.Intn(len(wrongTimes()))]
	case 1:
		return p.w.latest - 1 - r.Intn(3)
	case 2:
		return p.w.latest + r.Intn(1+min(20, long))*long
	case 3:
		return edge + long - 1
	case 4:
		return edge + long
	case 5:
		return edge + 2*long - 1
	case 6:
		return edge + 2*long
	case 7:
		return p.w.latest + r.Intn(2*long)
	}
	return p.w.latest
}

// call asks the window and the words the same.
func (p pair) call(t *testing.T, r *rand.Rand) {
	t.Helper()
	now, key := p.anyTime(r), anyKey(r)
	switch r.Intn(4) {
	case 0:
		got, e := p.is.Closed(now, key)
		want, f := p.w.closed(now, key)
		if got != want || e != f {
			t.Fatalf("Closed(%d, %.40q) by %+v: %d, %d; want %d, %d", now, key, p.w.shape, got, e, want, f)
		}
	case 1:
		got, e := p.is.Open(now, key)
		want, f := p.w.open(now, key)
		if got != want || e != f {
			t.Fatalf("Open(%d, %.40q) by %+v: %d, %d; want %d, %d", now, key, p.w.shape, got, e, want, f)
		}
	default:
		n := anyTimes(r)
		e, f := p.is.Add(now, key, n), p.w.add(now, key, n)
		if e != f {
			t.Fatalf("Add(%d, %.40q, %d) by %+v: %d; want %d", now, key, n, p.w.shape, e, f)
		}
	}
}

// wantAsWorded: at the latest time the window answers of each key as the words have it, and one ahead of it not at all.
func wantAsWorded(t *testing.T, p pair) {
	t.Helper()
	now := p.w.latest
	wantErrTime(t, p.is, now-1)
	for _, key := range someKeys() {
		open, _ := p.w.open(now, key)
		wantOpen(t, p.is, now, key, open)
		closed, _ := p.w.closed(now, key)
		wantClosed(t, p.is, now, key, closed)
	}
	if t.Failed() {
		t.Fatalf("%+v", p.w.shape)
	}
}

func wantAdd(t *testing.T, w *window.Window, now int, key string, n uint64) {
	t.Helper()
	if e := w.Add(now, key, n); e != api.OK {
		t.Errorf("Add(%d, %.40q, %d): %d", now, key, n, e)
	}
}

func wantOpen(t *testing.T, w *window.Window, now int, key string, want uint64) {
	t.Helper()
	if got, e := w.Open(now, key); got != want || e != api.OK {
		t.Errorf("Open(%d, %.40q): %d, %d; want %d", now, key, got, e, want)
	}
}

func wantClosed(t *testing.T, w *window.Window, now int, key string, want uint64) {
	t.Helper()
	if got, e := w.Closed(now, key); got != want || e != api.OK {
		t.Errorf("Closed(%d, %.40q): %d, %d; want %d", now, key, got, e, want)
	}
}

// wantErrTime: no call takes that time, and each tells nothing beside.
func wantErrTime(t *testing.T, w *window.Window, now int) {
	t.Helper()
	if e := w.Add(now, "a", 1000); e != api.ErrTime {
		t.Errorf("Add(%d): %d; want ErrTime", now, e)
	}
	if n, e := w.Open(now, "a"); n != 0 || e != api.ErrTime {
		t.Errorf("Open(%d): %d, %d; want 0, ErrTime", now, n, e)
	}
	if n, e := w.Closed(now, "a"); n != 0 || e != api.ErrTime {
		t.Errorf("Closed(%d): %d, %d; want 0, ErrTime", now, n, e)
	}
}
