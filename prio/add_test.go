package prio_test

import (
	"slices"
	"testing"

	"telemeter/api"
	"telemeter/prio"
)

// Weights from 1 to 2^32 may be, others not, whatever the draw and whatever the draws.
func TestAdd(t *testing.T) {
	for _, draws := range edges() {
		for _, draw := range edges() {
			for _, c := range []struct {
				weight uint64
				want   api.Errno
			}{
				{0, api.ErrArg}, {1, api.OK}, {2, api.OK}, {1<<32 - 1, api.OK}, {1 << 32, api.OK},
				{1<<32 + 1, api.ErrArg}, {1<<32 + 2, api.ErrArg}, {1 << 33, api.ErrArg}, {1 << 63, api.ErrArg}, {greatest - 1, api.ErrArg}, {greatest, api.ErrArg},
			} {
				s := prio.New(2, draws)
				place, n := 0, 1
				if c.want != api.OK {
					place, n = -1, 0
				}
				got, e := s.Add(c.weight, draw)
				if got != place || e != c.want || s.Len() != n {
					t.Errorf("Add(%d, %d) of draws %d: %d, %d, and Len %d; want %d, %d, %d", c.weight, draw, draws, got, e, s.Len(), place, c.want, n)
				}
			}
		}
	}
}

// Places count what was offered, kept or not, from 0 on, behind each Close anew; Len is how many.
func TestPlaces(t *testing.T) {
	s := prio.New(2, 10)
	for _, n := range []int{0, 1, 2, 3, 50, 2, 1001} {
		for i := range n {
			if got := s.Len(); got != i {
				t.Errorf("Len: %d; want %d", got, i)
			}
			if got, e := s.Add(uint64(1+i*3%7), uint64(i)); got != i || e != api.OK {
				t.Errorf("Add: %d, %d; want place %d", got, e, i)
			}
		}
		if got := s.Len(); got != n {
			t.Errorf("Len: %d; want %d", got, n)
		}
		s.Close()
		if got := s.Len(); got != 0 {
			t.Errorf("Len behind Close: %d", got)
		}
	}
}

// What was refused changes nothing: neither places, nor Len, nor what is kept, nor for how much.
func TestRefusedChangesNothing(t *testing.T) {
	all := []one{{5, 3}, {1, 0}, {9, 2}, {9, 2}, {1 << 32, 7}, {4, 1}, {2, 9}}
	refused := []uint64{0, 1<<32 + 1, greatest}
	for _, keep := range []int{1, 2, 3, 6, 7, 8} {
		want := offer(t, keep, 10, all).close(t)
		p := pairOf(keep, 10)
		for i, x := range all {
			for _, weight := range refused {
				for _, draw := range []uint64{0, 9, greatest} {
					p.add(t, weight, draw)
				}
			}
			if n := p.s.Len(); n != i {
				t.Errorf("Len behind what was refused: %d; want %d", n, i)
			}
			p.add(t, x.weight, x.draw)
			p.add(t, refused[i%3], 0)
		}
		if got := p.close(t); !slices.Equal(got, want) {
			t.Errorf("keep %d, with some that were refused: %v; want %v", keep, got, want)
		}
	}
}

// Of nothing but refused ones none is kept.
func TestAllRefused(t *testing.T) {
	for _, weight := range []uint64{0, 1<<32 + 1, greatest} {
		p := pairOf(1, 2)
		for range 3 {
			p.add(t, weight, 0)
		}
		if l := p.close(t); len(l) != 0 {
			t.Errorf("Close: %v; want none", l)
		}
	}
}

// A draw is taken without the multiples of M in it: those that differ by these alone are one draw.
func TestDrawIsTakenByM(t *testing.T) {
	for _, draws := range []uint64{1, 2, 3, 7, 10, 1 << 20, 1<<32 + 1, 1 << 63, greatest - 1, greatest} {
		for _, draw := range []uint64{0, 1, draws / 2, draws - 1} {
			draw %= draws
			for _, times := range []uint64{0, 1, 2, 3, (greatest - draw) / draws} {
				if times > (greatest-draw)/draws {
					continue
				}
				all := []one{{6, draw + times*draws}, {5, draws / 3}, {7, 2 * (draws / 3)}}
				plain := []one{{6, draw}, {5, draws / 3}, {7, 2 * (draws / 3)}}
				for _, keep := range []int{1, 2} {
					want := offer(t, keep, draws, plain).close(t)
					if got := offer(t, keep, draws, all).close(t); !slices.Equal(got, want) {
						t.Errorf("draw %d and %d times %d: %v; want %v", draw, times, draws, got, want)
					}
				}
			}
		}
	}
}

// A draw that is M is 0, one above it by 1 is 1; one that is below it stays.
func TestDrawAboutM(t *testing.T) {
	wantClose(t, 1, 5, []one{{2, 4}, {2, 5}}, api.Kept{Place: 1, Num: 2, Den: 1})                // 2/5 and 2: 5 times 2/5
	wantClose(t, 1, 5, []one{{2, 5}, {2, 4}}, api.Kept{Place: 0, Num: 2, Den: 1})                // the same, the other way round
	wantClose(t, 1, 5, []one{{2, 6}, {2, 5}}, api.Kept{Place: 1, Num: 5, Den: 1})                // 1 and 2: 5 times 1
	wantClose(t, 1, 5, []one{{2, 6}, {2, 2}}, api.Kept{Place: 0, Num: 10, Den: 3})               // 1 and 2/3: 5 times 2/3
	wantClose(t, 1, 5, []one{{2, 9}, {2, 10}, {2, 8}}, api.Kept{Place: 1, Num: 5, Den: 2})       // 2/5, 2, 1/2: 5 times 1/2
	wantClose(t, 1, 5, []one{{2, greatest}, {3, 1}}, api.Kept{Place: 0, Num: 15, Den: 2})        // 2^64 - 1 is 0 of 5: 2 and 3/2
	wantClose(t, 1, 7, []one{{2, greatest}, {3, 2}}, api.Kept{Place: 0, Num: 7, Den: 1})         // and 1 of 7: 1 and 1, alike
	wantClose(t, 1, 1, []one{{2, greatest}, {3, 0}, {1, 5}}, api.Kept{Place: 1, Num: 3, Den: 1}) // and 0 of 1, as each is
}

// With draws 0 no draw loses anything: d + 1 may be 2^64, which divides 2^64 times a weight.
func TestDrawOfAll(t *testing.T) {
	wantClose(t, 1, 0, []one{{1, 0}, {1, greatest}}, api.Kept{Place: 0, Num: 1, Den: 1})
	wantClose(t, 1, 0, []one{{1, greatest}, {1, 0}}, api.Kept{Place: 1, Num: 1, Den: 1})
	wantClose(t, 1, 0, []one{{9, greatest}, {1, 0}}, api.Kept{Place: 1, Num: 9, Den: 1})
	wantClose(t, 1, 0, []one{{9, greatest}, {10, 0}}, api.Kept{Place: 1, Num: 10, Den: 1})
	wantClose(t, 1, 0, []one{{1 << 32, greatest}, {1, 0}}, api.Kept{Place: 1, Num: 1 << 32, Den: 1})
	wantClose(t, 1, 0, []one{{3, 1<<63 - 1}, {5, greatest}}, api.Kept{Place: 0, Num: 5, Den: 1}) // 6 by 2^64, and 5 by 2^64
	wantClose(t, 1, 0, []one{{2, 1<<63 - 1}, {5, greatest}}, api.Kept{Place: 1, Num: 5, Den: 1}) // 4 by 2^64, and 5 by 2^64
	wantClose(t, 1, 0, []one{{4, greatest}, {4, greatest}}, api.Kept{Place: 0, Num: 4, Den: 1})
}
