package heap_test

import (
	"slices"
	"testing"

	"telemeter/api"
	"telemeter/heap"
)

func wantPush(t *testing.T, h *heap.Heap, at, no int, want api.Errno) {
	t.Helper()
	if e := h.Push(api.Timer{At: at, No: no}); e != want {
		t.Errorf("Push of (%d, %d): %d; want %d", at, no, e, want)
	}
}

func wantPop(t *testing.T, h *heap.Heap, at, no int) {
	t.Helper()
	if x, is := h.Pop(); x != (api.Timer{At: at, No: no}) || !is {
		t.Errorf("Pop: %+v, %v; want (%d, %d)", x, is, at, no)
	}
}

func wantDue(t *testing.T, h *heap.Heap, now int, want ...api.Timer) {
	t.Helper()
	if got := h.Due(now); !slices.Equal(got, want) {
		t.Errorf("Due(%d): %v; want %v", now, got, want)
	}
}

// The chapter's example.
func TestExample(t *testing.T) {
	for _, most := range []int{2, 3, mostOfAll} {
		h := heap.New(most)
		wantPush(t, h, 5, 1, api.OK)
		wantPush(t, h, 3, 2, api.OK)
		wantPop(t, h, 3, 2)
		wantPush(t, h, 3, 1, api.ErrArg)
		wantPop(t, h, 5, 1)
		wantNone(t, h)
	}
}

// A number that is there is ErrArg, with its own time and with any other; in a heap that is full, too, where another number is ErrFull. Neither changes anything.
func TestPushRefused(t *testing.T) {
	for _, more := range []int{0, 1, 5} {
		for _, n := range []int{1, 2, 3, 8, 30} {
			all := ordered(n)
			p := filled(t, n+more, all...)
			for _, x := range all {
				for _, at := range append(edges(), x.At, x.At-1, x.At+1) {
					wantPush(t, p.h, at, x.No, api.ErrArg)
					p.look(t)
				}
			}
			if more == 0 {
				for _, at := range edges() {
					wantPush(t, p.h, at, 7777, api.ErrFull)
					p.look(t)
				}
			}
			if got := p.h.Due(n); !slices.Equal(got, all) {
				t.Errorf("of %d at most, behind what was refused: %v; want %v", n+more, got, all)
			}
		}
	}
}

// A number that was there and is no more may come again, in a heap that was full, too: with its time, or with another one.
func TestPushAgain(t *testing.T) {
	for _, most := range []int{1, 2, 3, 10} {
		for _, at := range []int{-1, 0, 1, 1000} {
			for name, take := range map[string]func(h *heap.Heap) bool{
				"Pop":  func(h *heap.Heap) bool { _, is := h.Pop(); return is },
				"Drop": func(h *heap.Heap) bool { return h.Drop(1) },
				"Due":  func(h *heap.Heap) bool { return len(h.Due(0)) == 1 },
			} {
				h := heap.New(most)
				wantPush(t, h, 0, 1, api.OK)
				for no := 2; no <= most; no++ {
					wantPush(t, h, 10, no, api.OK)
				}
				wantPush(t, h, 0, 1, api.ErrArg)
				for range 3 {
					if !take(h) || h.Len() != most-1 {
						t.Fatalf("%s: %d are left of %d", name, h.Len(), most)
					}
					wantPush(t, h, 0, 1, api.OK)
					wantPush(t, h, 0, 1, api.ErrArg)
					wantPush(t, h, 0, most+1, api.ErrFull)
				}
				take(h)
				wantPush(t, h, at, 1, api.OK)
				if h.Len() != most || !h.Drop(1) || h.Drop(1) {
					t.Errorf("behind %s and Push: number 1 is to be there once; %d are left", name, h.Len())
				}
			}
		}
	}
}

// One number's going leaves all other numbers refused as they were.
func TestOthersStayRefused(t *testing.T) {
	all := ordered(40)
	for gone := range all {
		p := filled(t, 40, all...)
		p.drop(t, all[gone].No)
		for i, x := range all {
			if i != gone {
				wantPush(t, p.h, -9, x.No, api.ErrArg)
			}
		}
		p.push(t, all[gone])
		p.drain(t)
	}
}

// A heap takes so many, not one more; what is taken out leaves room for as many.
func TestFull(t *testing.T) {
	for _, most := range []int{1, 2, 3, 7, 8, 100, mostOfAll} {
		h := heap.New(most)
		for no := range most {
			wantPush(t, h, -no, no, api.OK)
		}
		wantPush(t, h, 0, most, api.ErrFull)
		wantPush(t, h, -1<<40, -1, api.ErrFull)
		wantPush(t, h, 0, most-1, api.ErrArg)
		wantPush(t, h, 0, 0, api.ErrArg)
		if h.Len() != most {
			t.Errorf("Len: %d; want %d", h.Len(), most)
		}
		wantPop(t, h, 1-most, most-1)
		wantPush(t, h, 4, most, api.OK)
		wantPush(t, h, 4, most+1, api.ErrFull)
		wantDue(t, h, -most)
		if l := h.Due(3); len(l) != most-1 {
			t.Errorf("Due(3): %d; want %d", len(l), most-1)
		}
		wantPop(t, h, 4, most)
		wantNone(t, h)
	}
}

// What a refused Push would have put in is not there then: not to be dropped, not to be taken out; and may come when there is room.
func TestRefusedIsNotThere(t *testing.T) {
	h := heap.New(2)
	wantPush(t, h, 5, 1, api.OK)
	wantPush(t, h, 6, 2, api.OK)
	wantPush(t, h, 1, 3, api.ErrFull)
	wantPush(t, h, 9, 1, api.ErrArg)
	wantPush(t, h, 1, 2, api.ErrArg)
	if h.Drop(3) {
		t.Error("Drop(3): true")
	}
	wantDue(t, h, 4)
	wantPop(t, h, 5, 1)
	wantPush(t, h, 1, 3, api.OK)
	wantPop(t, h, 1, 3)
	wantPop(t, h, 6, 2)
	wantNone(t, h)
}

// What is handed in is not kept: the caller's own may change then.
func TestPushKeepsACopy(t *testing.T) {
	h := heap.New(3)
	x := api.Timer{At: 5, No: 1}
	h.Push(x)
	x.At, x.No = 1, 9
	wantPush(t, h, 4, 9, api.OK)
	wantPop(t, h, 4, 9)
	wantPop(t, h, 5, 1)
}
