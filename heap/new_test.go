package heap_test

import (
	"math"
	"testing"

	"telemeter/api"
	"telemeter/heap"
)

func TestNew(t *testing.T) {
	for _, c := range []struct {
		most int
		want bool
	}{
		{math.MinInt, false}, {math.MinInt + 1, false}, {-5000, false}, {-2, false}, {-1, false}, {0, false},
		{1, true}, {2, true}, {1000, true}, {4999, true}, {5000, true},
		{5001, false}, {5002, false}, {1 << 16, false}, {1 << 32, false}, {1<<32 + 1, false}, {math.MaxInt - 1, false}, {math.MaxInt, false},
	} {
		if is := heap.New(c.most) != nil; is != c.want {
			t.Errorf("New(%d): there is one: %v; want %v", c.most, is, c.want)
		}
	}
}

func TestNewEach(t *testing.T) {
	for most := -100; most <= mostOfAll+100; most++ {
		if is := heap.New(most) != nil; is != (most >= 1 && most <= mostOfAll) {
			t.Errorf("New(%d): there is one: %v", most, is)
		}
	}
}

// A heap without timers: a new one, and one from which all were taken, one way or another.
func TestWithoutTimers(t *testing.T) {
	for _, most := range []int{1, 2, 3, mostOfAll} {
		empty := map[string]*pair{"new": pairOf(most)}
		for _, name := range []string{"taken", "dropped", "due"} {
			empty[name] = filled(t, most, api.Timer{At: 3, No: 7})
		}
		empty["taken"].pop(t)
		empty["dropped"].drop(t, 7)
		empty["due"].due(t, 3)
		for name, p := range empty {
			if p.h.Len() != 0 {
				t.Errorf("%s: Len: %d", name, p.h.Len())
			}
			for range 2 {
				wantNone(t, p.h)
			}
			p.push(t, api.Timer{At: 3, No: 7})
			p.drain(t)
		}
	}
}

// wantNone: no call finds a timer.
func wantNone(t *testing.T, h *heap.Heap) {
	t.Helper()
	if x, is := h.First(); x != (api.Timer{}) || is {
		t.Errorf("First: %+v, %v; want none", x, is)
	}
	if x, is := h.Pop(); x != (api.Timer{}) || is {
		t.Errorf("Pop: %+v, %v; want none", x, is)
	}
	for _, n := range edges() {
		if h.Drop(n) {
			t.Errorf("Drop(%d): true", n)
		}
		if l := h.Due(n); len(l) != 0 {
			t.Errorf("Due(%d): %v; want none", n, l)
		}
	}
	if n := h.Len(); n != 0 {
		t.Errorf("Len: %d; want 0", n)
	}
}

// Heaps know nothing of one another.
func TestHeapsAreApart(t *testing.T) {
	one, other := pairOf(2), pairOf(2)
	one.push(t, api.Timer{At: 5, No: 1})
	one.push(t, api.Timer{At: 3, No: 2})
	other.look(t)
	other.push(t, api.Timer{At: 9, No: 1})
	other.drop(t, 2)
	one.drop(t, 1)
	other.due(t, 8)
	other.drain(t)
	one.drain(t)
}
