package prio_test

import (
	"math"
	"testing"

	"telemeter/prio"
)

// There is one of each keep from 1 to 1000, whatever the draws.
func TestNew(t *testing.T) {
	for _, draws := range edges() {
		for _, c := range []struct {
			keep int
			want bool
		}{
			{math.MinInt, false}, {math.MinInt + 1, false}, {-1000, false}, {-1, false}, {0, false},
			{1, true}, {2, true}, {999, true}, {1000, true},
			{1001, false}, {1002, false}, {1<<32 + 1, false}, {math.MaxInt - 1, false}, {math.MaxInt, false},
		} {
			if is := prio.New(c.keep, draws) != nil; is != c.want {
				t.Errorf("New(%d, %d): there is one: %v; want %v", c.keep, draws, is, c.want)
			}
		}
	}
}

func TestNewEach(t *testing.T) {
	for keep := -100; keep <= mostKept+100; keep++ {
		if is := prio.New(keep, 1) != nil; is != (keep >= 1 && keep <= mostKept) {
			t.Errorf("New(%d, 1): there is one: %v", keep, is)
		}
	}
}

// A sampler that was offered none keeps none, however often it is closed.
func TestNoneOffered(t *testing.T) {
	for _, draws := range edges() {
		for _, keep := range []int{1, 2, mostKept} {
			p := pairOf(keep, draws)
			for range 3 {
				if n := p.s.Len(); n != 0 {
					t.Errorf("Len: %d", n)
				}
				if l := p.close(t); len(l) != 0 {
					t.Errorf("Close: %v; want none", l)
				}
			}
			p.add(t, 1, 1)
			p.close(t)
		}
	}
}

// Samplers know nothing of one another.
func TestSamplersAreApart(t *testing.T) {
	one, other := pairOf(1, 2), pairOf(1, 2)
	one.add(t, 5, 1)
	if n := other.s.Len(); n != 0 {
		t.Errorf("Len of the other one: %d", n)
	}
	other.add(t, 3, 0)
	one.add(t, 4, 0)
	other.close(t)
	one.add(t, 7, 0)
	other.add(t, 9, 1)
	one.close(t)
	other.close(t)
}

// So many are kept as New says, of all numbers of them that may be.
func TestKeepEach(t *testing.T) {
	for _, keep := range []int{1, 2, 3, 4, 7, 8, 9, 100, 999, mostKept} {
		for _, n := range []int{0, 1, keep - 1, keep, keep + 1, keep + 2, 2*keep + 3} {
			p := pairOf(keep, 1<<20)
			for i := range n {
				p.add(t, uint64(1+i*i%7), uint64(i*7919))
			}
			if l := p.close(t); len(l) != min(keep, n) {
				t.Errorf("keep %d of %d: %d are kept", keep, n, len(l))
			}
		}
	}
}
