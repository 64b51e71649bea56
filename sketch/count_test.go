package sketch_test

import (
	"math/rand"
	"strings"
	"testing"

	"telemeter/sketch"
)

// The chapter's example.
func TestExample(t *testing.T) {
	for _, f := range someShapes() {
		s := f.made()
		s.Add("a", 3)
		s.Add("a", 4)
		wantCount(t, s, "a", 7)
		wantTotal(t, s, 7)
	}
}

// Counts that were worked out apart from the program; the first nine of the keys were added.
func TestCount(t *testing.T) {
	keys := []string{"", "a", "b", "c", "d", "e", "f", "g", "h", "k\x00", "\xff", "the key of a log"}
	times := []uint64{1, 28, 9, 112, 25, 252, 49, 448, 81}
	for _, c := range []struct {
		shape
		want []uint64
	}{
		{shape{1, 1, 0}, []uint64{1005, 1005, 1005, 1005, 1005, 1005, 1005, 1005, 1005, 1005, 1005, 1005}},
		{shape{1, 4, 0}, []uint64{26, 646, 646, 646, 26, 252, 646, 646, 81, 252, 252, 646}},
		{shape{2, 4, 1}, []uint64{113, 28, 9, 113, 25, 310, 310, 529, 529, 25, 28, 113}},
		{shape{3, 5, 7}, []uint64{1, 77, 9, 112, 26, 278, 77, 448, 81, 81, 26, 26}},
		{shape{2, 3, greatest}, []uint64{59, 333, 59, 112, 112, 252, 59, 473, 333, 59, 112, 59}},
		{shape{8, 2, greatest - 3}, []uint64{58, 28, 28, 113, 58, 252, 58, 476, 139, 58, 28, 113}},
		{shape{8, 1024, greatest}, []uint64{1, 28, 9, 112, 25, 252, 49, 448, 81, 0, 0, 0}},
		{shape{4, 8, 1 << 63}, []uint64{1, 28, 9, 112, 25, 252, 49, 448, 81, 0, 0, 25}},
	} {
		s := c.made()
		for i, n := range times {
			s.Add(keys[i], n)
		}
		for i, want := range c.want {
			wantCount(t, s, keys[i], want)
		}
		wantTotal(t, s, 1005)
	}
}

// By 2 rows, 4 wide, and seed 1 these keys have the cells 1 0 (the empty one and c), 1 3 (e and f), 1 1 (g), 0 3 (b), 2 2 (a).
func TestSharedCells(t *testing.T) {
	s := sketch.New(2, 4, 1)
	add := func(key string, n uint64, counts map[string]uint64) {
		t.Helper()
		s.Add(key, n)
		for key, want := range counts {
			wantCount(t, s, key, want)
		}
	}
	add("e", 5, map[string]uint64{"e": 5, "f": 5, "g": 0, "": 0, "b": 0, "a": 0})
	add("g", 3, map[string]uint64{"e": 5, "g": 3, "": 0, "b": 0}) // the shared cell is above 3 already: it stays
	add("b", 100, map[string]uint64{"b": 100, "e": 5, "g": 3})    // e's other cell is b's now; the one that g shares is 5 still
	add("", 2, map[string]uint64{"": 2, "c": 2, "e": 5, "g": 3, "b": 100})
	add("c", 4, map[string]uint64{"": 6, "c": 6, "e": 6, "g": 3, "b": 100}) // all cells are shared with the empty key
	add("g", 0, map[string]uint64{"": 6, "c": 6, "e": 6, "g": 3, "b": 100, "a": 0})
	add("a", 1, map[string]uint64{"": 6, "c": 6, "e": 6, "g": 3, "b": 100, "a": 1})
	wantTotal(t, s, 115)
}

// One cell a row is all keys': each is counted as all together.
func TestWidthOne(t *testing.T) {
	for rows := 1; rows <= 8; rows++ {
		s, all := sketch.New(rows, 1, 3), uint64(0)
		for i, key := range someKeys() {
			s.Add(key, uint64(i))
			all += uint64(i)
			for _, other := range someKeys() {
				wantCount(t, s, other, all)
			}
			wantTotal(t, s, all)
		}
	}
}

// Of 0 times nothing comes: no cell of the key is below what the least is.
func TestAddNoTimes(t *testing.T) {
	for _, f := range someShapes() {
		s, w := f.made(), wordsOf(f)
		s.Add("", 0)
		s.Add("a", 0)
		wantAsWorded(t, s, w)
		for i, key := range someKeys()[:9] {
			s.Add(key, uint64(i))
			w.add(key, uint64(i))
		}
		for _, key := range someKeys() {
			s.Add(key, 0)
			wantAsWorded(t, s, w)
		}
	}
}

func TestEmptyKey(t *testing.T) {
	for _, f := range someShapes() {
		s := f.made()
		wantCount(t, s, "", 0)
		s.Add("", 2)
		s.Add("", 3)
		wantCount(t, s, "", 5)
		wantTotal(t, s, 5)
	}
}

// A key that was never added counts as its least cell tells: nothing, or what others left there.
func TestNeverAdded(t *testing.T) {
	wide, narrow := sketch.New(8, 1024, greatest), sketch.New(1, 4, 0)
	for _, s := range []*sketch.Sketch{wide, narrow} {
		wantCount(t, s, "k\x00", 0)
		s.Add("e", 252) // the cell of k too, where there is but one row of 4
		s.Add("d", 25)
	}
	wantCount(t, wide, "k\x00", 0)
	wantCount(t, narrow, "k\x00", 252)
	wantCount(t, narrow, "h", 0)
	for range 3 { // being asked for counts for nothing
		wantCount(t, wide, "h", 0)
		wantTotal(t, wide, 277)
	}
}

// By 8 rows, 1024 wide, a and b share no cell.
func TestGreatest(t *testing.T) {
	for _, c := range []struct {
		first, then uint64
		want        uint64
	}{
		{greatest - 1, 0, greatest - 1},
		{greatest - 1, 1, greatest},
		{greatest - 1, 2, greatest},
		{greatest, 0, greatest},
		{greatest, 1, greatest},
		{greatest, greatest, greatest},
		{0, greatest, greatest},
		{1, greatest, greatest},
		{1 << 63, 1<<63 - 1, greatest},
		{1 << 63, 1 << 63, greatest},
		{1 << 63, 1<<63 + 1, greatest},
	} {
		one, both := sketch.New(8, 1024, greatest), sketch.New(8, 1024, greatest)
		one.Add("a", c.first)
		one.Add("a", c.then)
		both.Add("a", c.first)
		both.Add("b", c.then)
		wantCount(t, one, "a", c.want)
		wantCount(t, one, "b", 0)
		wantTotal(t, one, c.want)
		wantCount(t, both, "a", c.first)
		wantCount(t, both, "b", c.then)
		wantTotal(t, both, c.want)
	}
}

// What is at the greatest stays there, and nothing else is lost by it.
func TestGreatestStays(t *testing.T) {
	s := sketch.New(8, 1024, greatest)
	for i := range uint64(5) {
		s.Add("a", greatest-i)
		s.Add("b", i)
		wantCount(t, s, "a", greatest)
		wantCount(t, s, "b", i*(i+1)/2)
		wantTotal(t, s, greatest)
	}
	full := sketch.New(2, 4, 1) // the empty key and c share both cells, g one of them, a none
	full.Add("", greatest)
	full.Add("c", 7)
	full.Add("g", 7)
	full.Add("a", 7)
	wantCount(t, full, "", greatest)
	wantCount(t, full, "c", greatest)
	wantCount(t, full, "g", 7)
	wantCount(t, full, "a", 7)
	wantTotal(t, full, greatest)
}

func TestAsWorded(t *testing.T) {
	drawn(1, 1500, func(r *rand.Rand) {
		p := anyPair(r, 60)
		wantAsWorded(t, p.s, p.w)
		p.add(anyKey(r), anyTimes(r)) // having been asked changes nothing
		wantAsWorded(t, p.s, p.w)
	})
}

// T6: no key is counted too low; nor is one higher than all together.
func TestNeverTooLow(t *testing.T) {
	drawn(2, 1000, func(r *rand.Rand) {
		p := anyPair(r, 200)
		for _, key := range someKeys() {
			if got, least := p.s.Count(key), atMost(p.w.often(key)).Uint64(); got < least || got > p.s.Total() {
				t.Errorf("Count(%.40q): %d of %d; at least %d", key, got, p.s.Total(), least)
			}
		}
	})
}

// A sketch one of whose rows has no two of the keys in one cell counts them right.
func TestRight(t *testing.T) {
	seen := 0
	drawn(3, 4000, func(r *rand.Rand) {
		f := shape{1 + r.Intn(8), 1 + r.Intn(40), anyNumber(r)}
		keys := someKeys()
		r.Shuffle(len(keys), func(i, j int) { keys[i], keys[j] = keys[j], keys[i] })
		keys = keys[:1+r.Intn(6)]
		if !f.apart(keys) {
			return
		}
		seen++
		p := pairOf(f)
		for range 30 {
			p.add(keys[r.Intn(len(keys))], anyTimes(r))
		}
		for _, key := range keys {
			wantCount(t, p.s, key, atMost(p.w.often(key)).Uint64())
		}
	})
	if seen < 1000 {
		t.Errorf("only %d sketches had such a row", seen)
	}
}

// With more rows, the first of which are the same, no key is counted higher.
func TestMoreRows(t *testing.T) {
	drawn(4, 500, func(r *rand.Rand) {
		f := anyShape(r)
		var all []*sketch.Sketch
		for rows := 1; rows <= 8; rows++ {
			all = append(all, sketch.New(rows, f.width, f.seed))
		}
		for range r.Intn(100) {
			key, n := anyKey(r), anyTimes(r)
			for _, s := range all {
				s.Add(key, n)
			}
		}
		for i, s := range all[1:] {
			for _, key := range someKeys() {
				if less, more := all[i].Count(key), s.Count(key); more > less {
					t.Errorf("Count(%.40q) with one row more: %d, above %d", key, more, less)
				}
			}
			wantTotal(t, s, all[0].Total())
		}
	})
}

// T7: no keys make a call panic; a key counts by its bytes, whatever memory they lie in.
func TestAnyKeys(t *testing.T) {
	s := sketch.New(8, 1024, 5)
	drawn(5, 300, func(r *rand.Rand) {
		b := make([]byte, r.Intn(5000))
		r.Read(b)
		key := string(b)
		before := s.Count(key)
		s.Add(key, 2)
		clear(b)
		wantCount(t, s, strings.Clone(key), before+2)
	})
	wantTotal(t, s, 600)
	huge := strings.Repeat("key\x00\xff", 1<<20)
	s.Add(huge, 1)
	if s.Count(huge) < 1 {
		t.Error("a key of many bytes is counted too low")
	}
}
