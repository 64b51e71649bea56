package rate_test

import (
	"math"
	"math/rand"
	"strings"
	"testing"

	"telemeter/api"
	"telemeter/prob"
	"telemeter/rate"
)

// A key's first while tells nothing of it, however often it comes; each next one what it was asked for in the one ahead, from its first Ask to its last.
func TestAsk(t *testing.T) {
	for _, target := range []uint64{1, 2, 4, 5, 6, greatest} {
		r, ahead := wide(10, target).made(), 0
		for while, asks := range []int{5, 3, 7, 1, 6, 6, 12} {
			for i := range asks {
				now := while*10 + min(i, 9)
				wantAsk(t, r, now, "a", byByWords(target, uint64(ahead)))
				wantOpen(t, r, now, "a", uint64(i+1))
				wantClosed(t, r, now, "a", uint64(ahead))
			}
			ahead = asks
		}
	}
}

// Of whiles that were passed over, or in which a key did not come, nothing is told: it is as at its first time.
func TestAskBehindAGap(t *testing.T) {
	for _, long := range []int{1, 2, 10, 1 << 20} {
		r := wide(long, 1).made()
		for range 4 {
			wantAsk(t, r, 0, "a", 0)
			wantAsk(t, r, 0, "b", 0)
		}
		wantAsk(t, r, long, "b", 3<<54)
		wantAsk(t, r, 2*long, "a", 0) // others came ahead, it did not
		wantAsk(t, r, 2*long, "a", 0)
		wantAsk(t, r, 2*long, "b", 0) // 1 came, 1 is kept
		wantAsk(t, r, 3*long, "a", 1<<55)
		wantAsk(t, r, 5*long, "a", 0) // none came
		wantAsk(t, r, 5*long, "b", 0)
		wantAsk(t, r, 1000*long, "a", 0)
	}
}

// The last time of a while is of it, the next one is of the next.
func TestAskAtEdges(t *testing.T) {
	for _, long := range []int{1, 2, 3, 7, 10, 1000, 1 << 20, 1 << 38} {
		for k := range 3 {
			r, first := wide(long, 1).made(), k*long
			end := first + long - 1
			wantAsk(t, r, first, "a", 0)
			wantAsk(t, r, end, "a", 0)
			wantAsk(t, r, end+1, "a", 1<<55)
			wantAsk(t, r, end+long, "a", 1<<55)
			if end+long+1 <= last {
				wantAsk(t, r, end+long+1, "a", 1<<55)
			}
		}
	}
}

// At, below and above the target.
func TestAskByTarget(t *testing.T) {
	for _, c := range []struct{ target, asks, want uint64 }{
		{1, 0, 0}, {1, 1, 0}, {1, 2, 1 << 55}, {1, 3, 0xaaaaaaaaaaaaab}, {1, 4, 3 << 54}, {3, 2, 0}, {3, 3, 0}, {3, 4, 1 << 54}, {9, 10, 0x1999999999999a},
		{10, 1000, 0xfd70a3d70a3d71}, {100, 100, 0}, {100, 101, 0x288df0cac5b40}, {whole, 300, 0}, {greatest, 300, 0},
	} {
		r := wide(10, c.target).made()
		for range c.asks {
			wantAsk(t, r, 9, "k", 0)
		}
		wantOpen(t, r, 9, "k", c.asks)
		for range 3 {
			wantAsk(t, r, 10, "k", c.want)
		}
	}
}

// Each key by itself, where a row has them apart.
func TestAskKeyByKey(t *testing.T) {
	r := wide(10, 2).made()
	for i, key := range someKeys() {
		for range i {
			wantAsk(t, r, 5, key, 0)
		}
	}
	for i, key := range someKeys() {
		wantAsk(t, r, 15, key, byByWords(2, uint64(i)))
	}
}

// Keys that share a cell are counted with one another; of one row of one cell all keys are.
func TestAskOfSharedCells(t *testing.T) {
	r := shape{1, 1, 3, 10, 2}.made()
	for _, key := range []string{"a", "b", "c", "a"} {
		wantAsk(t, r, 5, key, 0)
	}
	for _, key := range []string{"a", "b", "c", "d", ""} {
		wantAsk(t, r, 12, key, 1<<55)
	}
	wantAsk(t, r, 20, "e", byByWords(2, 5))
}

// Thresholds that were worked out apart from the program, the first nine of the keys being asked for once, twice and so on in a while; by the seeds of whiles.
func TestSeeds(t *testing.T) {
	keys := []string{"", "a", "b", "c", "d", "e", "f", "g", "h", "k\x00", "\xff", "the key of a log"}
	for _, c := range []struct {
		shape
		while int
		count []uint64
		want  []uint64
	}{
		{shape{1, 4, 0, 1, 5}, 0, []uint64{6, 24, 24, 24, 6, 6, 24, 24, 9, 6, 6, 24}, []uint64{0x2aaaaaaaaaaaab, 0xcaaaaaaaaaaaab, 0xcaaaaaaaaaaaab, 0xcaaaaaaaaaaaab, 0x2aaaaaaaaaaaab, 0x2aaaaaaaaaaaab, 0xcaaaaaaaaaaaab, 0xcaaaaaaaaaaaab, 0x71c71c71c71c72, 0x2aaaaaaaaaaaab, 0x2aaaaaaaaaaaab, 0xcaaaaaaaaaaaab}},
		{shape{1, 4, 0, 10, 5}, 1, []uint64{35, 2, 3, 35, 5, 35, 35, 35, 35, 5, 2, 35}, []uint64{0xdb6db6db6db6dc, 0, 0, 0xdb6db6db6db6dc, 0, 0xdb6db6db6db6dc, 0xdb6db6db6db6dc, 0xdb6db6db6db6dc, 0xdb6db6db6db6dc, 0, 0, 0xdb6db6db6db6dc}},
		{shape{1, 4, greatest, 10, 10}, 1, []uint64{6, 24, 24, 24, 6, 6, 24, 24, 9, 6, 6, 24}, []uint64{0, 0x95555555555556, 0x95555555555556, 0x95555555555556, 0, 0, 0x95555555555556, 0x95555555555556, 0, 0, 0, 0x95555555555556}},
		{shape{2, 3, greatest - 1, 7, 7}, 0, []uint64{5, 11, 11, 5, 13, 11, 11, 13, 9, 11, 5, 9}, []uint64{0, 0x5d1745d1745d18, 0x5d1745d1745d18, 0, 0x76276276276277, 0x5d1745d1745d18, 0x5d1745d1745d18, 0x76276276276277, 0x38e38e38e38e39, 0x5d1745d1745d18, 0, 0x38e38e38e38e39}},
		{shape{2, 3, greatest - 1, 7, 7}, 3, []uint64{4, 4, 17, 4, 17, 15, 7, 15, 17, 15, 7, 15}, []uint64{0, 0, 0x96969696969697, 0, 0x96969696969697, 0x88888888888889, 0, 0x88888888888889, 0x96969696969697, 0x88888888888889, 0, 0x88888888888889}},
		{shape{2, 3, 1 << 63, 1, 3}, last - 1, []uint64{6, 6, 8, 6, 8, 22, 22, 9, 22, 6, 8, 6}, []uint64{0x80000000000000, 0x80000000000000, 0xa0000000000000, 0x80000000000000, 0xa0000000000000, 0xdd1745d1745d18, 0xdd1745d1745d18, 0xaaaaaaaaaaaaab, 0xdd1745d1745d18, 0x80000000000000, 0xa0000000000000, 0x80000000000000}},
	} {
		r, now := c.made(), c.while*c.long
		for i, key := range keys[:9] {
			for range i + 1 {
				wantAsk(t, r, now, key, 0)
			}
		}
		for i, key := range keys {
			wantOpen(t, r, now, key, c.count[i])
		}
		for i, key := range keys {
			wantAsk(t, r, now+c.long, key, c.want[i])
		}
	}
}

// Ask beside the window's own calls: what Add counts it tells in the next while, what it counts they tell.
func TestAskBesideTheWindow(t *testing.T) {
	r := wide(10, 3).made()
	wantAdd(t, r, 2, "a", 5)
	wantAsk(t, r, 3, "a", 0)
	wantOpen(t, r, 4, "a", 6)
	wantAdd(t, r, 4, "b", 3)
	wantAdd(t, r, 5, "c", 0)
	wantClosed(t, r, 11, "a", 6)
	wantAsk(t, r, 11, "a", 1<<55)
	wantAsk(t, r, 11, "b", 0)
	wantAsk(t, r, 11, "c", 0)
	wantClosed(t, r, 11, "a", 6) // what Ask counts now is not told yet
	wantOpen(t, r, 11, "a", 1)
	wantAdd(t, r, 12, "a", 11)
	wantAsk(t, r, 19, "a", 1<<55)
	wantOpen(t, r, 20, "a", 0) // Open takes the time on, and turns the whiles
	wantAsk(t, r, 20, "a", byByWords(3, 13))
	wantClosed(t, r, 35, "a", 1)
	wantAsk(t, r, 35, "a", 0)
	wantAdd(t, r, 45, "b", 1)
	wantClosed(t, r, 55, "a", 0)
	wantAsk(t, r, 55, "a", 0)
}

// However much was counted, there is a threshold, and 2^56 is the greatest: it keeps none.
func TestAskOfGreatCounts(t *testing.T) {
	for _, c := range []struct{ target, count, want uint64 }{
		{1, whole - 1, whole - 1}, {1, whole, whole - 1}, {1, whole + 1, whole}, {1, greatest, whole}, {255, greatest, whole}, {256, greatest, whole - 1},
		{1 << 63, greatest, 1 << 55}, {greatest - 1, greatest, 1}, {greatest, greatest, 0},
	} {
		r := wide(10, c.target).made()
		wantAdd(t, r, 3, "a", c.count)
		wantAsk(t, r, 10, "a", c.want)
		wantAdd(t, r, 10, "a", greatest)
		wantAsk(t, r, 11, "a", c.want) // one more than the greatest number is it
		wantOpen(t, r, 11, "a", greatest)
		wantAsk(t, r, 20, "a", byByWords(c.target, greatest))
	}
}

// ways are the calls: each takes a time, and makes it the rate's.
func ways() map[string]func(r *rate.Rate, now int) (uint64, api.Errno) {
	return map[string]func(r *rate.Rate, now int) (uint64, api.Errno){
		"Ask":    func(r *rate.Rate, now int) (uint64, api.Errno) { return r.Ask(now, "a") },
		"Add":    func(r *rate.Rate, now int) (uint64, api.Errno) { return 0, r.Add(now, "a", 1) },
		"Open":   func(r *rate.Rate, now int) (uint64, api.Errno) { return r.Open(now, "a") },
		"Closed": func(r *rate.Rate, now int) (uint64, api.Errno) { return r.Closed(now, "a") },
	}
}

// Whichever call told the latest time: what is ahead of it, or above 2^40, is not taken; the same time may come again and again.
func TestTimes(t *testing.T) {
	for _, long := range []int{1, 7, 10, 1 << 39, last} {
		for _, latest := range []int{0, 1, 9, 10, 11, 20, 1 << 39, last - 1, last} {
			for first, come := range ways() {
				for name, call := range ways() {
					for _, now := range append([]int{latest - 1, latest, latest + 1, last - 1, last}, wrongTimes()...) {
						r := shape{2, 8, 1, long, 1}.made()
						if _, e := come(r, latest); e != api.OK {
							t.Errorf("%s at %d, of whiles of %d: %d", first, latest, long, e)
						}
						want := api.ErrTime
						if now >= latest && now <= last {
							want = api.OK
						}
						n, e := call(r, now)
						if e != want || e != api.OK && n != 0 {
							t.Errorf("%s at %d, of whiles of %d, behind %s at %d: %d, %d; want %d", name, now, long, first, latest, n, e, want)
						}
					}
				}
			}
		}
	}
}

// A call that told ErrTime changes neither the time nor any count.
func TestRefusedChangesNothing(t *testing.T) {
	for _, now := range append([]int{0, 1, 12, 19, 20, 24}, wrongTimes()...) {
		r := wide(10, 1).made()
		wantAdd(t, r, 12, "a", 4)
		wantAsk(t, r, 25, "a", 3<<54)
		wantAsk(t, r, 25, "a", 3<<54)
		for range 3 {
			wantErrTime(t, r, now)
		}
		wantOpen(t, r, 25, "a", 2) // the time is still 25
		wantClosed(t, r, 25, "a", 4)
		wantAsk(t, r, 25, "a", 3<<54)
		wantErrTime(t, r, now)
		wantAsk(t, r, 30, "a", 0xaaaaaaaaaaaaab)
		wantOpen(t, r, 30, "a", 1)
	}
}

// One that told ErrTime ahead of all others leaves the rate at time 0.
func TestRefusedFirst(t *testing.T) {
	for _, now := range wrongTimes() {
		r := wide(10, 1).made()
		wantErrTime(t, r, now)
		wantAsk(t, r, 0, "a", 0)
		wantErrTime(t, r, now)
		wantAsk(t, r, 0, "a", 0)
		wantAsk(t, r, 10, "a", 1<<55)
	}
}

// At 2^40 the time stands: that one is taken ever again, and counts go on.
func TestLastTime(t *testing.T) {
	for _, long := range []int{1, 2, 10, 1 << 20, 1 << 39} {
		r := wide(long, 1).made()
		wantAsk(t, r, last-long, "a", 0)
		wantAsk(t, r, last-long, "a", 0)
		for range 3 {
			wantAsk(t, r, last, "a", 1<<55)
		}
		wantErrTime(t, r, last+1)
		wantErrTime(t, r, last-1)
		wantErrTime(t, r, math.MaxInt)
		wantAsk(t, r, last, "a", 1<<55)
		wantOpen(t, r, last, "a", 4)
		wantClosed(t, r, last, "a", 2)
	}
	r := wide(last, 1).made() // one while is ahead of the last time
	wantAsk(t, r, 0, "a", 0)
	wantAsk(t, r, last-1, "a", 0)
	wantAsk(t, r, last, "a", 1<<55)
}

func TestAskAsWorded(t *testing.T) {
	drawn(7, 3000, func(r *rand.Rand) {
		p := pairOf(anyShape(r))
		for range r.Intn(120) {
			p.call(t, r)
		}
		wantAsWorded(t, p)
	})
}

// Where a row has all keys apart, thresholds are by what was asked for, to the last.
func TestAskCountsRight(t *testing.T) {
	type place struct {
		while int
		key   string
	}
	drawn(8, 200, func(r *rand.Rand) {
		f := wide(1+r.Intn(20), 1+uint64(r.Intn(6)))
		is, asked, now := f.made(), map[place]uint64{}, 0
		for range 200 {
			now += r.Intn(60) / 59 * (r.Intn(30) + 1)
			key, while := anyKey(r), now/f.long
			wantAsk(t, is, now, key, byByWords(f.target, asked[place{while - 1, key}]))
			asked[place{while, key}]++
			wantOpen(t, is, now, key, asked[place{while, key}])
		}
	})
}

// What holds: of a key that was counted right, and comes as often in each while, the target are kept, on average: of all numbers together, and of some that are drawn.
func TestTargetIsKept(t *testing.T) {
	const whiles = 500
	draws := rand.New(rand.NewSource(9))
	for _, c := range []struct{ target, count uint64 }{{1, 1}, {1, 2}, {1, 40}, {5, 4}, {5, 5}, {5, 6}, {5, 100}, {20, 30}, {20, 200}} {
		r, kept, numbers, counts := wide(10, c.target).made(), 0.0, 0.0, 0.0
		for while := range whiles {
			for range c.count {
				threshold, e := r.Ask(while*10, "k")
				if e != api.OK || threshold > whole {
					t.Fatalf("Ask(%d): %#x, %d", while*10, threshold, e)
				}
				if while == 0 { // nothing is known yet: all are kept
					continue
				}
				numbers += float64(prob.Kept(threshold)) / whole
				if prob.Keep(prob.Number(api.Span{Lo: draws.Uint64()}), threshold) {
					kept++
					num, den, _ := prob.Weight(threshold)
					counts += float64(num) / float64(den)
				}
			}
		}
		want := float64(min(c.target, c.count))
		if a := numbers / (whiles - 1); a > want+1e-9 || a < want-1e-9 {
			t.Errorf("of %d, by %d: over all numbers %f are kept", c.count, c.target, a)
		}
		if a := kept / (whiles - 1); math.Abs(a-want) > want/8 {
			t.Errorf("of %d, by %d: %f are kept", c.count, c.target, a)
		}
		if a, all := counts/(whiles-1), float64(c.count); math.Abs(a-all) > all/8 {
			t.Errorf("of %d, by %d: what is kept counts for %f", c.count, c.target, a)
		}
	}
}

// T6: no key is counted too low, so of one that comes as often as ever no more than the target are kept, whatever other keys do.
func TestNoMoreThanTarget(t *testing.T) {
	drawn(10, 300, func(r *rand.Rand) {
		f := anyShape(r)
		f.long, f.target = 1+r.Intn(30), 1+uint64(r.Intn(9))
		is, often := f.made(), map[string]uint64{}
		for range r.Intn(200) {
			key := anyKey(r)
			often[key]++
			wantAsk(t, is, 0, key, 0)
		}
		for key, n := range often {
			threshold, e := is.Ask(f.long, key)
			if least := byByWords(f.target, n); e != api.OK || threshold < least || threshold > whole {
				t.Errorf("%.40q came %d times: %#x, %d; %#x is the least", key, n, threshold, e, least)
			}
		}
	})
}

// T7: no times, keys or numbers make a call panic; a key counts by its bytes, whatever memory they lie in.
func TestAnyCalls(t *testing.T) {
	drawn(11, 500, func(r *rand.Rand) {
		rate.By(anyNumber(r), anyNumber(r))
		rate.Clamp(anyNumber(r), anyNumber(r), anyNumber(r))
		rate.Toward(r.Uint64(), r.Uint64(), r.Uint64())
		is := shape{r.Intn(12) - 1, r.Intn(1200) - 50, r.Uint64(), int(anyNumber(r)), anyNumber(r)}.made()
		if is == nil {
			return
		}
		for range 30 {
			if threshold, _ := is.Ask(int(anyNumber(r)), anyKey(r)); threshold > whole {
				t.Errorf("a threshold of %#x", threshold)
			}
			is.Add(int(anyNumber(r)), anyKey(r), r.Uint64())
		}
	})
	is := wide(10, 1).made()
	b := []byte(strings.Repeat("key\x00\xff", 1<<20))
	key := string(b)
	wantAsk(t, is, 1, key, 0)
	wantAsk(t, is, 1, key, 0)
	copy(b, "other")
	wantAsk(t, is, 10, strings.Clone(key), 1<<55)
	wantAsk(t, is, 10, string(b), 0)
	wantOpen(t, is, 10, key, 1)
}
