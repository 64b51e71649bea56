package heap_test

import (
	"math"
	"math/rand"
	"slices"
	"testing"

	"telemeter/api"
	"telemeter/heap"
)

// What the chapter words, written another way than the program is: the tests hold one against the other.

const mostOfAll = 5000 // that a heap may have

// byWords is a plain list that is kept in order.
type byWords struct {
	most int
	list []api.Timer
}

// behind: does one come behind the other, or is it the same?
func behind(one, other api.Timer) bool {
	return one.At > other.At || one.At == other.At && one.No >= other.No
}

func (w *byWords) place(no int) int {
	return slices.IndexFunc(w.list, func(t api.Timer) bool { return t.No == no })
}

func (w *byWords) push(t api.Timer) api.Errno {
	if w.place(t.No) >= 0 {
		return api.ErrArg
	}
	if len(w.list) >= w.most {
		return api.ErrFull
	}
	at := 0
	for at < len(w.list) && behind(t, w.list[at]) {
		at++
	}
	w.list = slices.Insert(w.list, at, t)
	return api.OK
}

func (w *byWords) first() (api.Timer, bool) {
	for _, t := range w.list {
		return t, true
	}
	return api.Timer{}, false
}

func (w *byWords) drop(no int) bool {
	at := w.place(no)
	if at < 0 {
		return false
	}
	w.list = slices.Delete(w.list, at, at+1)
	return true
}

func (w *byWords) due(now int) []api.Timer {
	end := 0
	for end < len(w.list) && w.list[end].At <= now {
		end++
	}
	all := slices.Clone(w.list[:end])
	w.list = slices.Delete(w.list, 0, end)
	return all
}

// pair is a heap, and what the words have it hold.
type pair struct {
	h *heap.Heap
	w *byWords
}

func pairOf(most int) *pair { return &pair{heap.New(most), &byWords{most: most}} }

// filled has these timers, put in as they stand.
func filled(t *testing.T, most int, all ...api.Timer) *pair {
	t.Helper()
	p := pairOf(most)
	for _, x := range all {
		p.push(t, x)
	}
	return p
}

// same fails, if an answer is another one than the words have.
func same(t *testing.T, got, want api.Timer, is, wanted bool) {
	t.Helper()
	if got != want || is != wanted {
		t.Fatalf("%+v, %v; want %+v, %v", got, is, want, wanted)
	}
}

func (p *pair) push(t *testing.T, x api.Timer) {
	t.Helper()
	if e, want := p.h.Push(x), p.w.push(x); e != want {
		t.Fatalf("Push(%+v), of %d at most, beside %d: %d; want %d", x, p.w.most, len(p.w.list), e, want)
	}
	p.look(t)
}

func (p *pair) pop(t *testing.T) {
	t.Helper()
	want, wanted := p.w.first()
	p.w.drop(want.No)
	got, is := p.h.Pop()
	same(t, got, want, is, wanted)
	p.look(t)
}

func (p *pair) drop(t *testing.T, no int) {
	t.Helper()
	want := p.w.drop(no)
	if is := p.h.Drop(no); is != want {
		t.Fatalf("Drop(%d): %v; want %v", no, is, want)
	}
	p.look(t)
}

func (p *pair) due(t *testing.T, now int) {
	t.Helper()
	want := p.w.due(now)
	if got := p.h.Due(now); !slices.Equal(got, want) {
		t.Fatalf("Due(%d): %v; want %v", now, got, want)
	}
	p.look(t)
}

// look asks for what changes nothing.
func (p *pair) look(t *testing.T) {
	t.Helper()
	if got := p.h.Len(); got != len(p.w.list) {
		t.Fatalf("Len: %d; want %d", got, len(p.w.list))
	}
	want, wanted := p.w.first()
	got, is := p.h.First()
	same(t, got, want, is, wanted)
}

// drain takes all out, the first one first, and then one more.
func (p *pair) drain(t *testing.T) {
	t.Helper()
	for len(p.w.list) > 0 {
		p.pop(t)
	}
	p.pop(t)
}

// edges are the least and the greatest numbers, those about 0, and where one has a digit more; in order.
func edges() []int {
	return []int{
		math.MinInt, math.MinInt + 1, -1 << 40, math.MinInt32 - 1, math.MinInt32, -5001, -2, -1, 0,
		1, 2, 4999, 5000, 5001, math.MaxInt32, math.MaxInt32 + 1, 1 << 40, math.MaxInt - 1, math.MaxInt,
	}
}

// ordered are so many timers in order: three of each time, numbers rising and falling.
func ordered(n int) []api.Timer {
	p := &byWords{most: n}
	for i := range n {
		p.push(api.Timer{At: i / 3, No: (i*7)%101 + 101*(i/101) - n/2})
	}
	return p.list
}

// orders tells each order of so many places.
func orders(n int, visit func(places []int)) {
	var lay func(done []int)
	lay = func(done []int) {
		if len(done) == n {
			visit(done)
			return
		}
		for i := range n {
			if !slices.Contains(done, i) {
				lay(append(slices.Clone(done), i))
			}
		}
	}
	lay(nil)
}

// inOrder are the timers as the places say.
func inOrder(all []api.Timer, places []int) []api.Timer {
	var l []api.Timer
	for _, i := range places {
		l = append(l, all[i])
	}
	return l
}

func drawn(seed int64, times int, f func(r *rand.Rand)) {
	r := rand.New(rand.NewSource(seed))
	for range times {
		f(r)
	}
}

// anyOf is one of so few numbers that many are alike; sometimes any number.
func anyOf(r *rand.Rand, few int) int {
	switch r.Intn(12) {
	case 0:
		return edges()[r.Intn(len(edges()))]
	case 1:
		return int(r.Uint64()) >> r.Intn(64)
	}
	return r.Intn(few) - few/3
}

// call asks the heap and the words the same.
func (p *pair) call(t *testing.T, r *rand.Rand, few int) {
	t.Helper()
	switch r.Intn(9) {
	case 0:
		p.pop(t)
	case 1, 2:
		p.drop(t, anyOf(r, few))
	case 3:
		if r.Intn(4) == 0 {
			p.due(t, anyOf(r, few))
		}
	default:
		p.push(t, api.Timer{At: anyOf(r, few), No: anyOf(r, few)})
	}
}
