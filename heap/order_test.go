package heap_test

import (
	"math"
	"math/rand"
	"slices"
	"testing"

	"telemeter/api"
	"telemeter/heap"
)

// Of some timers, times alike among them, put in in each order: the first one comes first.
func TestEachOrder(t *testing.T) {
	for _, all := range [][]api.Timer{
		{}, {{At: 1, No: 1}}, {{At: 1, No: 2}, {At: 2, No: 1}}, {{At: 0, No: -1}, {At: 0, No: 0}, {At: 0, No: 1}},
		{{At: -3, No: 9}, {At: 0, No: -2}, {At: 0, No: 2}, {At: 5, No: -8}, {At: 5, No: 0}, {At: 7, No: 1}},
		ordered(7),
	} {
		orders(len(all), func(places []int) {
			p := filled(t, mostOfAll, inOrder(all, places)...)
			p.drain(t)
			p = filled(t, max(1, len(all)), inOrder(all, places)...)
			p.due(t, math.MaxInt)
			wantNone(t, p.h)
		})
	}
}

// Of timers of one time the one of the least number comes first, whatever the time.
func TestSameTime(t *testing.T) {
	for _, at := range edges() {
		p := pairOf(mostOfAll)
		for i := range edges() {
			p.push(t, api.Timer{At: at, No: edges()[(i*7+3)%len(edges())]})
		}
		for _, no := range edges() {
			if x, is := p.h.First(); x != (api.Timer{At: at, No: no}) || !is {
				t.Errorf("First: %+v, %v; want (%d, %d)", x, is, at, no)
			}
			p.pop(t)
		}
		wantNone(t, p.h)
	}
}

// The least and the greatest times and numbers, each with each: none is taken for another, or comes in another order.
func TestEdges(t *testing.T) {
	for _, a := range edges() {
		for _, b := range edges() {
			for _, c := range edges() {
				for _, d := range edges() {
					h := heap.New(2)
					wantPush(t, h, a, b, api.OK)
					if b == d {
						wantPush(t, h, c, d, api.ErrArg)
						continue
					}
					wantPush(t, h, c, d, api.OK)
					if a < c || a == c && b < d {
						wantPop(t, h, a, b)
						wantPop(t, h, c, d)
						continue
					}
					wantPop(t, h, c, d)
					wantPop(t, h, a, b)
				}
			}
		}
	}
}

// First leaves all as it is, however often it is asked.
func TestFirst(t *testing.T) {
	h := heap.New(5)
	wantPush(t, h, 5, 1, api.OK)
	wantPush(t, h, 3, 2, api.OK)
	wantPush(t, h, 3, -2, api.OK)
	for range 5 {
		if x, is := h.First(); x != (api.Timer{At: 3, No: -2}) || !is || h.Len() != 3 {
			t.Errorf("First: %+v, %v, of %d", x, is, h.Len())
		}
	}
	wantPop(t, h, 3, -2)
	wantPop(t, h, 3, 2)
	wantPop(t, h, 5, 1)
	wantNone(t, h)
}

// One alone of number 0 at time 0 is told with true: it is not taken for none.
func TestOfNoughts(t *testing.T) {
	p := filled(t, 2, api.Timer{})
	p.drop(t, 1)
	p.due(t, -1)
	wantPush(t, p.h, 4, 0, api.ErrArg)
	if x, is := p.h.First(); x != (api.Timer{}) || !is {
		t.Errorf("First: %+v, %v", x, is)
	}
	wantPop(t, p.h, 0, 0)
	wantNone(t, p.h)
	wantPush(t, p.h, 0, 0, api.OK)
	wantDue(t, p.h, 0, api.Timer{})
	wantNone(t, p.h)
}

// Each one is dropped, the first, the last and all between; it is not there then, and what is left comes in order.
func TestDrop(t *testing.T) {
	for _, n := range []int{1, 2, 3, 4, 5, 10, 31, 64} {
		all := ordered(n)
		drawn(int64(n), 5, func(r *rand.Rand) {
			laid := inOrder(all, r.Perm(n))
			for _, x := range all {
				p := filled(t, n, laid...)
				for _, no := range []int{7777, math.MinInt, math.MaxInt} {
					p.drop(t, no)
				}
				p.drop(t, x.No)
				if p.h.Len() != n-1 {
					t.Errorf("Len: %d; want %d", p.h.Len(), n-1)
				}
				p.drop(t, x.No)
				p.drain(t)
			}
		})
	}
}

// By each order in which six were put in, each two of them are dropped, and the others come in order.
func TestDropOfTwo(t *testing.T) {
	all := ordered(6)
	orders(len(all), func(places []int) {
		for i := range all {
			for j := range i {
				p := filled(t, mostOfAll, inOrder(all, places)...)
				p.drop(t, all[i].No)
				p.drop(t, all[j].No)
				p.drain(t)
			}
		}
	})
}

// Dropped one by one, in each order, till none is left.
func TestDropOfAll(t *testing.T) {
	all := ordered(7)
	orders(len(all), func(places []int) {
		p := filled(t, len(all), all...)
		for _, i := range places {
			p.drop(t, all[i].No)
		}
		wantNone(t, p.h)
	})
}

// A number's timer is dropped, and no one that is at its time, or whose time is its number.
func TestDropByNumber(t *testing.T) {
	h := heap.New(5)
	wantPush(t, h, 2, 1, api.OK)
	wantPush(t, h, 1, 2, api.OK)
	wantPush(t, h, 1, 3, api.OK)
	if h.Drop(-2) || h.Drop(0) || h.Drop(4) || !h.Drop(2) || h.Drop(2) {
		t.Error("Drop")
	}
	wantPop(t, h, 1, 3)
	wantPop(t, h, 2, 1)
	wantNone(t, h)
}

// At a timer's time it is due, behind it too, ahead of it not; what was told is not there then, and all else is.
func TestDue(t *testing.T) {
	for _, at := range edges() {
		for _, now := range append(edges(), at, at-1, at+1) { // of the least and the greatest times the one beside is at the other end
			h := heap.New(3)
			wantPush(t, h, at, 4, api.OK)
			if now >= at {
				wantDue(t, h, now, api.Timer{At: at, No: 4})
				wantNone(t, h)
				continue
			}
			wantDue(t, h, now)
			wantDue(t, h, at, api.Timer{At: at, No: 4})
			wantNone(t, h)
		}
	}
}

func TestDueOfSome(t *testing.T) {
	h := heap.New(6)
	for _, x := range []api.Timer{{At: 5, No: 9}, {At: 7, No: 1}, {At: 3, No: 4}, {At: 5, No: 2}, {At: 6, No: 3}, {At: 5, No: -4}} {
		wantPush(t, h, x.At, x.No, api.OK)
	}
	wantDue(t, h, 2)
	wantDue(t, h, math.MinInt)
	wantDue(t, h, 5, api.Timer{At: 3, No: 4}, api.Timer{At: 5, No: -4}, api.Timer{At: 5, No: 2}, api.Timer{At: 5, No: 9})
	wantDue(t, h, 5)
	if h.Len() != 2 || h.Drop(9) || h.Drop(4) {
		t.Errorf("what was due is there; Len: %d", h.Len())
	}
	wantPush(t, h, 5, 9, api.OK)
	wantDue(t, h, 4)
	wantDue(t, h, 6, api.Timer{At: 5, No: 9}, api.Timer{At: 6, No: 3})
	wantDue(t, h, 1<<40, api.Timer{At: 7, No: 1})
	wantNone(t, h)
}

// A heap holds no clock: times that are due may come again, and ahead of what was asked for.
func TestDueKeepsNoTime(t *testing.T) {
	h := heap.New(2)
	wantDue(t, h, 1000)
	wantPush(t, h, 5, 1, api.OK)
	wantDue(t, h, 4)
	wantDue(t, h, 1000, api.Timer{At: 5, No: 1})
	wantPush(t, h, 3, 1, api.OK)
	wantDue(t, h, 2)
	wantDue(t, h, 3, api.Timer{At: 3, No: 1})
}

// At each time in turn, of timers put in in any order, those are due that are, in order.
func TestDueAtEachTime(t *testing.T) {
	drawn(5, 100, func(r *rand.Rand) {
		n := r.Intn(60)
		p := filled(t, 60, inOrder(ordered(n), r.Perm(n))...)
		for now := -1; now < 22; now += 1 + r.Intn(3) {
			p.due(t, now)
		}
		wantNone(t, p.h)
	})
}

// What is told is new memory: it shares none with what is kept, nor with another answer; nothing lies behind its length.
func TestDueIsNewMemory(t *testing.T) {
	for _, n := range []int{1, 2, 3, 5, 9, 17, 33, 100} {
		all := ordered(3 * n)
		p := filled(t, 3*n, all...)
		one := p.h.Due(all[n-1].At)
		want := slices.Clone(one)
		p.w.due(all[n-1].At)
		if cap(one) != len(one) {
			t.Errorf("of %d: %d lie behind what is told", len(one), cap(one)-len(one))
		}
		for i := range one {
			one[i] = api.Timer{At: -1000, No: -i}
		}
		for i := range 3 * n {
			one = append(one, api.Timer{At: -2000, No: i})
		}
		p.look(t)
		for _, x := range want {
			p.push(t, x)
		}
		other := p.h.Due(all[n-1].At)
		p.w.due(all[n-1].At)
		if !slices.Equal(other, want) {
			t.Errorf("Due again: %v; want %v", other, want)
		}
		p.push(t, api.Timer{At: -5, No: -5000})
		p.drain(t)
		if !slices.Equal(other, want) {
			t.Errorf("Due again, when others came and went: %v; want %v", other, want)
		}
	}
}

// Rows of calls, drawn, against a plain list that is kept in order.
func TestAsWorded(t *testing.T) {
	drawn(1, 3000, func(r *rand.Rand) {
		few := 2 + r.Intn([]int{3, 10, 60}[r.Intn(3)])
		p := pairOf(1 + r.Intn(few))
		for range r.Intn(150) {
			p.call(t, r, few)
		}
		p.drain(t)
	})
}

// As many as there may be: put in and taken out, dropped and due, again and again.
func TestGreatHeap(t *testing.T) {
	drawn(2, 2, func(r *rand.Rand) {
		p := pairOf(mostOfAll)
		for range 2 * mostOfAll {
			p.push(t, api.Timer{At: r.Intn(2000), No: r.Intn(2 * mostOfAll)})
		}
		for no := -1; p.h.Len() < mostOfAll; no-- {
			p.push(t, api.Timer{At: r.Intn(2000), No: no})
		}
		p.push(t, api.Timer{No: 2 * mostOfAll})
		for range mostOfAll {
			p.drop(t, r.Intn(2*mostOfAll))
		}
		p.due(t, 500)
		for range mostOfAll {
			p.call(t, r, 2*mostOfAll)
		}
		p.drain(t)
	})
}

// However many came and went, no more are there than are left: a number or a time that is gone counts for nothing.
func TestManyComeAndGo(t *testing.T) {
	h := heap.New(3)
	wantPush(t, h, 1<<40, -1, api.OK)
	for no := range 100000 {
		wantPush(t, h, no, no, api.OK)
		switch no % 3 {
		case 0:
			wantPop(t, h, no, no)
		case 1:
			if !h.Drop(no) {
				t.Fatalf("Drop(%d)", no)
			}
		default:
			wantDue(t, h, no, api.Timer{At: no, No: no})
		}
		if h.Len() != 1 {
			t.Fatalf("Len behind %d: %d", no, h.Len())
		}
	}
	wantPop(t, h, 1<<40, -1)
}
