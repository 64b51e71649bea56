package rate_test

import (
	"math"
	"math/big"
	"math/rand"
	"slices"
	"testing"

	"telemeter/api"
	"telemeter/rate"
	"telemeter/window"
)

// What the chapter words, written another way than the program is: the tests hold one against the other.

const (
	whole    = 72057594037927936
	greatest = math.MaxUint64
	last     = 1 << 40 // the last time that there is
)

func bigOf(n uint64) *big.Int { return new(big.Int).SetUint64(n) }

func byByWords(target, count uint64) uint64 {
	if bigOf(count).Cmp(bigOf(target)) <= 0 {
		return 0
	}
	part := new(big.Int).Lsh(bigOf(target), 56)
	part.Div(part, bigOf(count))
	return new(big.Int).Sub(bigOf(whole), part).Uint64()
}

func clampByWords(t, low, high uint64) uint64 {
	if t < low {
		t = low
	}
	if high < t {
		t = high
	}
	return t
}

// boundsByWords: how many may be kept, at least and at most, where so many were.
func boundsByWords(kept, times uint64) (least, most *big.Int) {
	least = new(big.Int).Div(bigOf(kept), bigOf(times))
	if least.Sign() == 0 {
		least = big.NewInt(1)
	}
	most = new(big.Int).Mul(bigOf(kept), bigOf(times))
	if most.BitLen() > 56 {
		most = bigOf(whole)
	}
	return least, most
}

// towardByWords: of the bounds and what is wanted the middle one is the nearest.
func towardByWords(from, to, times uint64) (uint64, api.Errno) {
	if from>>56 > 0 || to>>56 > 0 || times == 0 {
		return 0, api.ErrArg
	}
	least, most := boundsByWords(whole-from, times)
	all := []*big.Int{least, most, bigOf(whole - to)}
	slices.SortFunc(all, (*big.Int).Cmp)
	return new(big.Int).Sub(bigOf(whole), all[1]).Uint64(), api.OK
}

// shape is what a rate is made by.
type shape struct {
	rows, width int
	seed        uint64
	long        int
	target      uint64
}

func (f shape) made() *rate.Rate {
	return rate.New(f.rows, f.width, f.seed, f.long, f.target)
}

func (f shape) window() *window.Window {
	return window.New(f.rows, f.width, f.seed, f.long)
}

// wide is one of whiles so long, in whose sketches a row has the tests' keys apart: they are counted right.
func wide(long int, target uint64) shape { return shape{8, 1024, 5, long, target} }

// pair is a rate, and what the words have it hold: a window that is asked beside it, and the latest time.
type pair struct {
	is *rate.Rate
	f  shape
	w  *window.Window

	latest int
}

func pairOf(f shape) *pair { return &pair{is: f.made(), f: f, w: f.window()} }

func (p *pair) askByWords(now int, key string) (uint64, api.Errno) {
	c, e := p.w.Closed(now, key)
	if e != api.OK {
		return 0, e
	}
	return byByWords(p.f.target, c), p.w.Add(now, key, 1)
}

func someKeys() []string {
	long := make([]byte, 600)
	return []string{"", "a", "b", "c", "d", "e", "f", "g", "h", "ab", "a\x00", "\x00", "\xff", "é", "日本", "the key of a log", string(long)}
}

// someShapes: the edges of what a rate is made by, and what is between.
func someShapes() []shape {
	var l []shape
	for _, long := range []int{1, 2, 10, 1 << 39, last - 1, last} {
		for _, target := range []uint64{1, 2, 5, 1 << 56, greatest} {
			l = append(l, shape{1, 1, 0, long, target}, shape{2, 3, greatest, long, target}, shape{8, 2, 1 << 63, long, target}, shape{3, 1024, 7, long, target})
		}
	}
	return l
}

// edges: where a number has a digit more, of any kind, and its neighbours.
func edges() []uint64 {
	l := []uint64{0, 1, 2, greatest - 1, greatest}
	for shift := 2; shift < 64; shift += 3 {
		l = append(l, 1<<shift-1, 1<<shift, 1<<shift+1)
	}
	return append(l, whole-2, whole+2, 3<<54, 5<<53, 3*whole-1, 3*whole, 1<<55-1, 1<<55, 1<<55+1, 1<<57, 10, 100, 1e9+7)
}

// wrongTimes are right for no rate.
func wrongTimes() []int {
	return []int{math.MinInt, math.MinInt + 1, -last, -10, -2, -1, last + 1, last + 2, 1 << 41, 1 << 62, math.MaxInt - 1, math.MaxInt}
}

func drawn(seed int64, times int, f func(r *rand.Rand)) {
	r := rand.New(rand.NewSource(seed))
	for range times {
		f(r)
	}
}

// anyNumber has any number of digits, as often one as another.
func anyNumber(r *rand.Rand) uint64 { return r.Uint64() >> r.Intn(65) }

// anyThreshold keeps some, as often many as few.
func anyThreshold(r *rand.Rand) uint64 {
	t := r.Uint64() % whole >> r.Intn(57)
	if r.Intn(2) == 0 {
		return whole - 1 - t
	}
	return t
}

func anyKey(r *rand.Rand) string {
	few := someKeys()
	return few[r.Intn(len(few))]
}

// anyShape has few cells, short whiles and low targets more often than many, long and high ones.
func anyShape(r *rand.Rand) shape {
	width := 1 + r.Intn([]int{2, 5, 30, 1024}[r.Intn(4)])
	long := 1 + r.Intn([]int{3, 20, 1000, last}[r.Intn(4)])
	target := 1 + anyNumber(r)>>1
	if r.Intn(3) > 0 {
		target = 1 + uint64(r.Intn(20))
	}
	return shape{1 + r.Intn(8), width, r.Uint64(), long, target}
}

// anyTime is most often in the latest one's while or in the next; sometimes far behind it, or wrong.
func (p *pair) anyTime(r *rand.Rand) int {
	long := p.f.long
	edge := p.latest - p.latest%long
	switch r.Intn(20) {
	case 0:
		return wrongTimes()[r.Intn(len(wrongTimes()))]
	case 1:
		return p.latest - 1 - r.Intn(3)
	case 2:
		return p.latest + r.Intn(4)*long
	case 3:
		return edge + long - 1
	case 4:
		return edge + long
	case 5:
		return p.latest + r.Intn(2*long)
	}
	return p.latest
}

// call asks the rate and the words the same.
func (p *pair) call(t *testing.T, r *rand.Rand) {
	t.Helper()
	now, key := p.anyTime(r), anyKey(r)
	var got, want uint64
	var e, f api.Errno
	kind := r.Intn(8)
	switch kind {
	case 0:
		got, e = p.is.Closed(now, key)
		want, f = p.w.Closed(now, key)
	case 1:
		got, e = p.is.Open(now, key)
		want, f = p.w.Open(now, key)
	case 2:
		n := uint64(r.Intn(9)) * (anyNumber(r)>>r.Intn(64) + 1)
		e, f = p.is.Add(now, key, n), p.w.Add(now, key, n)
	default:
		got, e = p.is.Ask(now, key)
		want, f = p.askByWords(now, key)
	}
	if got != want || e != f {
		t.Fatalf("call %d at %d of %.40q, by %+v: %#x, %d; want %#x, %d", kind, now, key, p.f, got, e, want, f)
	}
	if e == api.OK {
		p.latest = now
	}
}

// wantAsWorded: at the latest time the rate's window holds what the words have it hold, and takes no time ahead of it.
func wantAsWorded(t *testing.T, p *pair) {
	t.Helper()
	wantErrTime(t, p.is, p.latest-1)
	for _, key := range someKeys() {
		open, _ := p.w.Open(p.latest, key)
		wantOpen(t, p.is, p.latest, key, open)
		closed, _ := p.w.Closed(p.latest, key)
		wantClosed(t, p.is, p.latest, key, closed)
	}
	if t.Failed() {
		t.Fatalf("%+v", p.f)
	}
}

func wantBy(t *testing.T, target, count, want uint64) {
	t.Helper()
	if got := rate.By(target, count); got != want {
		t.Errorf("By(%d, %d): %#x; want %#x", target, count, got, want)
	}
}

func wantClamp(t *testing.T, threshold, low, high, want uint64) {
	t.Helper()
	if got := rate.Clamp(threshold, low, high); got != want {
		t.Errorf("Clamp(%#x, %#x, %#x): %#x; want %#x", threshold, low, high, got, want)
	}
}

func wantToward(t *testing.T, from, to, times, want uint64, e api.Errno) {
	t.Helper()
	if got, gotE := rate.Toward(from, to, times); got != want || gotE != e {
		t.Errorf("Toward(%#x, %#x, %d): %#x, %d; want %#x, %d", from, to, times, got, gotE, want, e)
	}
}

func wantAsk(t *testing.T, is *rate.Rate, now int, key string, want uint64) {
	t.Helper()
	if got, e := is.Ask(now, key); got != want || e != api.OK {
		t.Errorf("Ask(%d, %.40q): %#x, %d; want %#x", now, key, got, e, want)
	}
}

func wantAdd(t *testing.T, is *rate.Rate, now int, key string, n uint64) {
	t.Helper()
	if e := is.Add(now, key, n); e != api.OK {
		t.Errorf("Add(%d, %.40q, %d): %d", now, key, n, e)
	}
}

func wantOpen(t *testing.T, is *rate.Rate, now int, key string, want uint64) {
	t.Helper()
	if got, e := is.Open(now, key); got != want || e != api.OK {
		t.Errorf("Open(%d, %.40q): %d, %d; want %d", now, key, got, e, want)
	}
}

func wantClosed(t *testing.T, is *rate.Rate, now int, key string, want uint64) {
	t.Helper()
	if got, e := is.Closed(now, key); got != want || e != api.OK {
		t.Errorf("Closed(%d, %.40q): %d, %d; want %d", now, key, got, e, want)
	}
}

// wantErrTime: no call takes that time, and each tells nothing beside.
func wantErrTime(t *testing.T, is *rate.Rate, now int) {
	t.Helper()
	if got, e := is.Ask(now, "a"); got != 0 || e != api.ErrTime {
		t.Errorf("Ask(%d): %#x, %d; want 0, ErrTime", now, got, e)
	}
	if e := is.Add(now, "a", 1000); e != api.ErrTime {
		t.Errorf("Add(%d): %d; want ErrTime", now, e)
	}
	if n, e := is.Open(now, "a"); n != 0 || e != api.ErrTime {
		t.Errorf("Open(%d): %d, %d; want 0, ErrTime", now, n, e)
	}
	if n, e := is.Closed(now, "a"); n != 0 || e != api.ErrTime {
		t.Errorf("Closed(%d): %d, %d; want 0, ErrTime", now, n, e)
	}
}
