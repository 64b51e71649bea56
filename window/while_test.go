package window_test

import (
	"math"
	"math/big"
	"math/rand"
	"strings"
	"testing"
)

// The chapter's example.
func TestExample(t *testing.T) {
	for _, f := range []shape{wide(10), {1, 1, 0, 10}, {2, 8, 1, 10}, {8, 2, greatest, 10}} {
		w := f.made()
		wantAdd(t, w, 3, "a", 5)
		wantClosed(t, w, 12, "a", 5)
		wantClosed(t, w, 25, "a", 0)
	}
}

// The first and the last time of a while are of one, the next one's first time is of the next.
func TestEdgesOfWhiles(t *testing.T) {
	for _, long := range []int{1, 2, 3, 7, 10, 1000, 1 << 20, 1 << 38} {
		for _, k := range []int{0, 1, 2, 3} {
			w, first := wide(long).made(), k*long
			end := first + long - 1
			wantAdd(t, w, first, "a", 5)
			wantAdd(t, w, end, "a", 7)
			wantOpen(t, w, end, "a", 12)
			wantClosed(t, w, end, "a", 0)
			if end+long+1 > last {
				continue
			}
			wantOpen(t, w, end+1, "a", 0)
			wantClosed(t, w, end+1, "a", 12)
			wantOpen(t, w, end+long, "a", 0)
			wantClosed(t, w, end+long, "a", 12)
			wantOpen(t, w, end+long+1, "a", 0)
			wantClosed(t, w, end+long+1, "a", 0)
		}
	}
}

// A while as long as all times but the last, and one that none comes behind.
func TestLongestWhiles(t *testing.T) {
	w := wide(last).made()
	wantAdd(t, w, 0, "a", 5)
	wantAdd(t, w, last-1, "a", 6)
	wantOpen(t, w, last-1, "a", 11)
	wantClosed(t, w, last-1, "a", 0)
	wantOpen(t, w, last, "a", 0)
	wantClosed(t, w, last, "a", 11)
	w = wide(last - 1).made()
	wantAdd(t, w, last-2, "a", 5)
	wantAdd(t, w, last-1, "a", 6)
	wantAdd(t, w, last, "a", 7)
	wantOpen(t, w, last, "a", 13)
	wantClosed(t, w, last, "a", 5)
}

// Whiles of 1: each time is one of its own.
func TestShortestWhiles(t *testing.T) {
	w := wide(1).made()
	for now := range 50 {
		wantClosed(t, w, now, "a", uint64(max(0, now-1)))
		wantOpen(t, w, now, "a", 0)
		wantAdd(t, w, now, "a", uint64(now))
		wantOpen(t, w, now, "a", uint64(now))
	}
}

// Where more than one while is between two calls, or nothing was added in the one ahead, Closed tells of none further back.
func TestPassedOver(t *testing.T) {
	for _, long := range []int{1, 2, 10, 1 << 20} {
		for _, whiles := range []int{2, 3, 4, 10, 1000, last/long - 1} {
			w := wide(long).made()
			wantAdd(t, w, 0, "a", 5)
			wantAdd(t, w, long, "a", 6)
			now := (whiles + 1) * long
			wantClosed(t, w, now, "a", 0)
			wantOpen(t, w, now, "a", 0)
			if now+2*long > last {
				continue
			}
			wantAdd(t, w, now, "a", 7)
			wantClosed(t, w, now+long, "a", 7)
			wantOpen(t, w, now+long, "a", 0)
			wantClosed(t, w, now+2*long, "a", 0) // nothing was added in the while ahead, but a call came
		}
	}
}

// From the end of one while to the beginning of the next but one is little more than long; from the beginning to the end of the next is little less than twice long.
func TestNearAndFar(t *testing.T) {
	far, near := wide(10).made(), wide(10).made()
	wantAdd(t, far, 9, "a", 5)
	wantClosed(t, far, 20, "a", 0)
	wantAdd(t, near, 0, "a", 5)
	wantClosed(t, near, 19, "a", 5)
}

// Open tells of now's while only, Closed of the while ahead only, each key by itself.
func TestWhileByWhile(t *testing.T) {
	w := wide(10).made()
	wantAdd(t, w, 0, "a", 1)
	wantAdd(t, w, 5, "b", 2)
	wantAdd(t, w, 10, "a", 30)
	wantOpen(t, w, 10, "a", 30)
	wantOpen(t, w, 10, "b", 0)
	wantClosed(t, w, 10, "a", 1)
	wantClosed(t, w, 10, "b", 2)
	wantClosed(t, w, 10, "c", 0)
	wantAdd(t, w, 19, "c", 40)
	wantAdd(t, w, 19, "a", 3)
	wantClosed(t, w, 20, "a", 33)
	wantClosed(t, w, 20, "b", 0)
	wantClosed(t, w, 20, "c", 40)
	wantOpen(t, w, 20, "a", 0)
	wantClosed(t, w, 29, "c", 40)
	wantClosed(t, w, 30, "c", 0)
}

// Of 0 times nothing comes, and the time goes on; beyond 2^64 - 1 a count stays there, till its while is gone.
func TestHowOften(t *testing.T) {
	w := wide(10).made()
	wantAdd(t, w, 5, "a", 0)
	wantErrTime(t, w, 4)
	wantOpen(t, w, 5, "a", 0)
	wantAdd(t, w, 5, "a", greatest-1)
	wantOpen(t, w, 5, "a", greatest-1)
	wantAdd(t, w, 6, "a", 0)
	wantOpen(t, w, 6, "a", greatest-1)
	wantAdd(t, w, 6, "a", 1)
	wantOpen(t, w, 6, "a", greatest)
	for _, n := range []uint64{0, 1, 1 << 63, greatest} {
		wantAdd(t, w, 7, "a", n)
		wantOpen(t, w, 7, "a", greatest)
	}
	wantOpen(t, w, 7, "b", 0)
	wantAdd(t, w, 10, "a", 0)
	wantClosed(t, w, 10, "a", greatest)
	wantClosed(t, w, 10, "b", 0)
	wantOpen(t, w, 10, "a", 0)
	wantAdd(t, w, 20, "a", 3)
	wantClosed(t, w, 20, "a", 0)
	wantOpen(t, w, 20, "a", 3)
}

// Counts that were worked out apart from the program, the first nine of the keys being added in one while; one window comes to it over all ahead of it, the other one step by step at the end.
func TestSeeds(t *testing.T) {
	keys := []string{"", "a", "b", "c", "d", "e", "f", "g", "h", "k\x00", "\xff", "the key of a log"}
	times := []uint64{1, 28, 9, 112, 25, 252, 49, 448, 81}
	for _, c := range []struct {
		shape
		while int
		want  []uint64
	}{
		{shape{1, 4, 0, 1}, 0, []uint64{26, 646, 646, 646, 26, 252, 646, 646, 81, 252, 252, 646}},
		{shape{1, 4, 0, 10}, 1, []uint64{943, 28, 9, 943, 25, 943, 943, 943, 943, 25, 28, 943}},
		{shape{1, 4, 0, 3}, 2, []uint64{113, 53, 310, 113, 53, 310, 310, 529, 529, 53, 529, 113}},
		{shape{1, 4, greatest, 10}, 0, []uint64{26, 588, 261, 588, 26, 261, 130, 588, 130, 26, 26, 130}},
		{shape{1, 4, greatest, 10}, 1, []uint64{26, 646, 646, 646, 26, 252, 646, 646, 81, 252, 252, 646}},
		{shape{1, 4, greatest, 1}, 2, []uint64{943, 28, 9, 943, 25, 943, 943, 943, 943, 25, 28, 943}},
		{shape{2, 3, greatest - 1, 7}, 0, []uint64{59, 280, 59, 113, 473, 280, 59, 473, 81, 59, 113, 59}},
		{shape{2, 3, greatest - 1, 7}, 1, []uint64{59, 333, 59, 112, 112, 252, 59, 473, 333, 59, 112, 59}},
		{shape{2, 3, greatest - 1, 7}, 2, []uint64{112, 112, 333, 112, 112, 252, 252, 477, 333, 112, 112, 477}},
		{shape{2, 3, greatest - 1, 7}, 3, []uint64{112, 49, 115, 112, 115, 286, 49, 497, 115, 497, 49, 115}},
		{shape{2, 3, 5, 1}, last, []uint64{302, 202, 9, 202, 202, 302, 302, 501, 202, 0, 0, 0}},
		{shape{2, 3, 1 << 63, 1}, last, []uint64{252, 112, 112, 112, 112, 252, 242, 449, 242, 252, 112, 449}},
		{shape{1, 4, greatest - last + 1, 1}, last, []uint64{26, 646, 646, 646, 26, 252, 646, 646, 81, 252, 252, 646}},
	} {
		now := c.while * c.long
		passed, stepped := c.made(), c.made()
		if c.while > 0 {
			wantAdd(t, stepped, now-1, "the key of a log", 5)
		}
		for i, n := range times {
			wantAdd(t, passed, now, keys[i], n)
			wantAdd(t, stepped, now, keys[i], n)
		}
		for i, want := range c.want {
			wantOpen(t, passed, now, keys[i], want)
			wantOpen(t, stepped, now, keys[i], want)
		}
		if now+c.long > last {
			continue
		}
		for i, want := range c.want {
			wantClosed(t, passed, now+c.long, keys[i], want)
			wantClosed(t, stepped, now+c.long, keys[i], want)
		}
	}
}

func TestAsWorded(t *testing.T) {
	drawn(1, 3000, func(r *rand.Rand) {
		p := pairOf(anyShape(r))
		for range r.Intn(80) {
			p.call(t, r)
			if r.Intn(10) == 0 {
				wantAsWorded(t, p)
			}
		}
		wantAsWorded(t, p)
	})
}

// What is counted in a while is told in the next one, and then no more: where a row has all keys apart, that is what was added, to the last.
func TestToldOnce(t *testing.T) {
	drawn(2, 150, func(r *rand.Rand) {
		p := pairOf(wide(1 + r.Intn(20)))
		for range 100 {
			now, key, n := p.w.latest+r.Intn(12), someKeys()[r.Intn(len(someKeys()))], anyTimes(r)
			wantAdd(t, p.is, now, key, n)
			p.w.add(now, key, n)
			key = someKeys()[r.Intn(len(someKeys()))]
			wantOpen(t, p.is, now, key, atMost(p.w.often(p.w.while(now), key)))
			wantClosed(t, p.is, now, key, atMost(p.w.often(p.w.ahead(now), key)))
		}
	})
}

// T6: in no while a key is counted too low, nor any higher than all together.
func TestNeverTooLow(t *testing.T) {
	drawn(3, 1000, func(r *rand.Rand) {
		f := anyShape(r)
		f.long = 1 + r.Intn(30)
		p := pairOf(f)
		for range r.Intn(200) {
			now, key, n := p.w.latest+r.Intn(4), anyKey(r), anyTimes(r)
			wantAdd(t, p.is, now, key, n)
			p.w.add(now, key, n)
		}
		now := p.w.latest
		for _, key := range someKeys() {
			open, _ := p.is.Open(now, key)
			if least, most := p.w.often(p.w.while(now), key), p.w.together(p.w.while(now)); open < atMost(least) || open > atMost(most) {
				t.Errorf("Open(%d, %.40q) by %+v: %d; want %d to %d", now, key, f, open, least, most)
			}
			closed, _ := p.is.Closed(now, key)
			if least, most := p.w.often(p.w.ahead(now), key), p.w.together(p.w.ahead(now)); closed < atMost(least) || closed > atMost(most) {
				t.Errorf("Closed(%d, %.40q) by %+v: %d; want %d to %d", now, key, f, closed, least, most)
			}
		}
	})
}

// together is how often all keys were added in a while.
func (w *byWords) together(while *big.Int) *big.Int {
	all := new(big.Int)
	for at, n := range w.added {
		if strings.HasPrefix(at, while.String()+" ") {
			all.Add(all, n)
		}
	}
	return all
}

// T7: no times, keys or numbers make a call panic; a key counts by its bytes, whatever memory they lie in.
func TestAnyCalls(t *testing.T) {
	drawn(4, 300, func(r *rand.Rand) {
		w := shape{r.Intn(12) - 1, r.Intn(1200) - 50, anyNumber(r), int(anyNumber(r))}.made()
		if w == nil {
			return
		}
		for range 30 {
			now, key := int(anyNumber(r)), anyKey(r)
			w.Add(now, key, anyNumber(r))
			w.Open(now, key)
			w.Closed(int(anyNumber(r)), key)
		}
	})
	w := wide(math.MaxInt32).made()
	b := []byte(strings.Repeat("key\x00\xff", 1<<20))
	key := string(b)
	wantAdd(t, w, 1, key, 2)
	copy(b, "other")
	wantOpen(t, w, 1, strings.Clone(key), 2)
	wantOpen(t, w, 1, string(b), 0)
	wantClosed(t, w, math.MaxInt32, key, 2)
}
