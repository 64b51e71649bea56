package sketch_test

import (
	"math/rand"
	"testing"

	"telemeter/sketch"
)

func TestCopyIsTheSame(t *testing.T) {
	for _, f := range someShapes() {
		p := pairOf(f)
		empty := p.copied()
		wantAsWorded(t, empty.s, empty.w)
		for i, key := range someKeys()[:12] {
			p.add(key, uint64(i*i))
		}
		c := p.copied()
		wantAsWorded(t, c.s, c.w)
		wantAsWorded(t, empty.s, empty.w)
		p.add("a", greatest)
		full := p.copied()
		wantAsWorded(t, full.s, full.w)
	}
}

// A copy that is added to leaves the sketch that it was made of, and the other way round; each goes on counting as the words have it.
func TestCopyIsApart(t *testing.T) {
	for _, f := range someShapes() {
		p := pairOf(f)
		p.add("a", 3)
		p.add("b", 4)
		c := p.copied()
		c.add("a", 10)
		c.add("c", 5)
		wantAsWorded(t, p.s, p.w)
		wantAsWorded(t, c.s, c.w)
		p.add("b", 100)
		p.add("d", 1)
		wantAsWorded(t, p.s, p.w)
		wantAsWorded(t, c.s, c.w)
		again := c.copied()
		again.add("", 2)
		c.add("e", 6)
		wantAsWorded(t, p.s, p.w)
		wantAsWorded(t, c.s, c.w)
		wantAsWorded(t, again.s, again.w)
	}
}

func TestCopyKnowsNothingOfOriginal(t *testing.T) {
	s := sketch.New(8, 1024, greatest)
	s.Add("a", 3)
	c := s.Copy()
	if c == s {
		t.Fatal("the copy is the sketch itself")
	}
	c.Add("a", 4)
	wantCount(t, s, "a", 3)
	wantTotal(t, s, 3)
	wantCount(t, c, "a", 7)
	wantTotal(t, c, 7)
	s.Add("b", 1)
	wantCount(t, c, "b", 0)
	wantTotal(t, c, 7)
}

// Many copies, of one another too, in any order.
func TestCopiesAsWorded(t *testing.T) {
	drawn(6, 300, func(r *rand.Rand) {
		all := []pair{anyPair(r, 20)}
		for range 60 {
			p := all[r.Intn(len(all))]
			if len(all) < 6 && r.Intn(5) == 0 {
				all = append(all, p.copied())
				continue
			}
			p.add(anyKey(r), anyTimes(r))
		}
		for _, p := range all {
			wantAsWorded(t, p.s, p.w)
		}
	})
}
