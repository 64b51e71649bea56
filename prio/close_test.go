package prio_test

import (
	"slices"
	"testing"

	"telemeter/api"
)

func kept(place int, num, den uint64) api.Kept {
	return api.Kept{Place: place, Num: num, Den: den}
}

// The chapter's example.
func TestExample(t *testing.T) {
	p := pairOf(1, 2)
	p.add(t, 1, 0)
	p.add(t, 1, 1)
	if l := p.close(t); !slices.Equal(l, []api.Kept{kept(0, 1, 1)}) {
		t.Errorf("Close: %v", l)
	}
}

// Of fewer than keep, and of just keep, all are kept, each for its weight, whatever the draws.
func TestAllAreKept(t *testing.T) {
	for _, draws := range edges() {
		for _, draw := range edges() {
			wantClose(t, 1, draws, []one{{7, draw}}, kept(0, 7, 1))
			wantClose(t, 2, draws, []one{{7, draw}}, kept(0, 7, 1))
			wantClose(t, 2, draws, []one{{1, draw}, {1 << 32, 0}}, kept(0, 1, 1), kept(1, 1<<32, 1))
			wantClose(t, 3, draws, []one{{4, draw}, {9, 5}, {1, 0}}, kept(0, 4, 1), kept(1, 9, 1), kept(2, 1, 1))
			wantClose(t, mostKept, draws, []one{{4, draw}, {9, draw}, {4, draw}}, kept(0, 4, 1), kept(1, 9, 1), kept(2, 4, 1))
		}
	}
}

// One more than keep: the least is not kept, and what it was is what the others count by.
func TestOneMore(t *testing.T) {
	// 6/2, 6/1, 6/3: 10 times 2 is 20
	wantClose(t, 2, 10, []one{{6, 1}, {6, 0}, {6, 2}}, kept(0, 20, 1), kept(1, 20, 1))
	wantClose(t, 2, 10, []one{{6, 2}, {6, 1}, {6, 0}}, kept(1, 20, 1), kept(2, 20, 1))
	wantClose(t, 2, 10, []one{{6, 1}, {6, 2}, {6, 0}}, kept(0, 20, 1), kept(2, 20, 1))
	// 100/10, 3/1, 4/3: 10 times 4/3 is 40/3
	wantClose(t, 2, 10, []one{{100, 9}, {3, 0}, {4, 2}}, kept(0, 100, 1), kept(1, 40, 3))
	// the greatest weight of the greatest draw and the least of the least one
	wantClose(t, 2, 1000, []one{{1, 0}, {1 << 32, 999}, {1, 1}}, kept(0, 500, 1), kept(1, 1<<32, 1))
}

// Many more than keep: those count by the greatest of all others, be it offered first, last, or between; and by no one that is kept.
func TestBar(t *testing.T) {
	// 8, 7, 6, 5, 4, 3 by draw 0 of 2: the kept ones count for twice the next one's weight
	all := []one{{8, 0}, {7, 0}, {6, 0}, {5, 0}, {4, 0}, {3, 0}}
	for keep := 1; keep < len(all); keep++ {
		bar := all[keep].weight * 2
		for turn := range all {
			for _, back := range []bool{false, true} {
				l := slices.Concat(all[turn:], all[:turn])
				if back {
					slices.Reverse(l)
				}
				var want []api.Kept
				for i, x := range l {
					if x.weight > all[keep].weight {
						want = append(want, kept(i, max(x.weight, bar), 1))
					}
				}
				wantClose(t, keep, 2, l, want...)
			}
		}
	}
}

// One that was kept for a while and had to go, or came late and is not kept, is one of the others too.
func TestBarOfThoseThatWent(t *testing.T) {
	wantClose(t, 1, 10, []one{{5, 0}, {7, 0}, {9, 0}}, kept(2, 70, 1))         // 7 was kept, and went
	wantClose(t, 1, 10, []one{{7, 0}, {5, 0}, {9, 0}}, kept(2, 70, 1))         // and 5 was not
	wantClose(t, 1, 10, []one{{9, 0}, {5, 0}, {7, 0}}, kept(0, 70, 1))         // 7 came last
	wantClose(t, 1, 10, []one{{9, 0}, {7, 0}, {5, 0}}, kept(0, 70, 1))         // 7 came, and then a lesser one
	wantClose(t, 1, 10, []one{{7, 0}, {9, 0}, {5, 0}, {8, 0}}, kept(1, 80, 1)) // 7 went, 8 came
}

// Places rise, however priorities do.
func TestPlacesRise(t *testing.T) {
	wantClose(t, 3, 1, []one{{1, 0}, {9, 0}, {2, 0}, {7, 0}, {3, 0}, {8, 0}}, kept(1, 9, 1), kept(3, 7, 1), kept(5, 8, 1))
	wantClose(t, 3, 1, []one{{7, 0}, {8, 0}, {9, 0}, {1, 0}}, kept(0, 7, 1), kept(1, 8, 1), kept(2, 9, 1))
	wantClose(t, 3, 1, []one{{9, 0}, {8, 0}, {7, 0}, {1, 0}}, kept(0, 9, 1), kept(1, 8, 1), kept(2, 7, 1))
	wantClose(t, 3, 1, []one{{1, 0}, {9, 0}, {7, 0}, {8, 0}}, kept(1, 9, 1), kept(2, 7, 1), kept(3, 8, 1))
	wantClose(t, 5, 1, []one{{3, 0}, {1, 0}, {2, 0}}, kept(0, 3, 1), kept(1, 1, 1), kept(2, 2, 1))
}

// Of two that are alike the lesser place is ahead, by the same numbers and by others.
func TestAlike(t *testing.T) {
	for _, n := range []int{2, 3, 4, 7, 20} {
		for keep := 1; keep <= n; keep++ {
			var same, others []one
			var want, wanted []api.Kept
			for i := range n {
				same = append(same, one{3, 4})
				others = append(others, one{uint64(i*5%n + 1), uint64(i*5%n+1)*2 - 1}) // k by 2k
				if i < keep && keep < n {
					want, wanted = append(want, kept(i, 12, 1)), append(wanted, kept(i, 50, 1)) // 20 times 3/5; 100 times a half
				} else if keep == n {
					want, wanted = append(want, kept(i, 3, 1)), append(wanted, kept(i, others[i].weight, 1))
				}
			}
			wantClose(t, keep, 20, same, want...)
			wantClose(t, keep, 100, others, wanted...)
		}
	}
}

// Alike to the last place that is kept: one of lesser place stays, one of greater place is the next.
func TestAlikeAtTheEnd(t *testing.T) {
	wantClose(t, 2, 4, []one{{1, 1}, {9, 0}, {2, 3}, {4, 7}}, kept(1, 9, 1), kept(3, 4, 1)) // 1/2, 9, 2/4, 4/4: 4 times 1/2
	wantClose(t, 2, 4, []one{{2, 3}, {1, 1}, {9, 0}}, kept(0, 2, 1), kept(2, 9, 1))
	wantClose(t, 2, 4, []one{{1, 1}, {2, 3}, {9, 0}}, kept(0, 2, 1), kept(2, 9, 1))
	wantClose(t, 2, 4, []one{{9, 0}, {1, 1}, {2, 3}, {1, 1}}, kept(0, 9, 1), kept(1, 2, 1))
	wantClose(t, 1, 4, []one{{2, 3}, {3, 5}, {1, 1}}, kept(1, 3, 1)) // 3 by draw 5, which is 1 of 4: 3/2
}

// A weight that is just M times P counts for itself, one above it too; one below it counts for M times P.
func TestAboutTheBar(t *testing.T) {
	// next is 6 by 3 of 10: 6/3; 10 times that is 20
	for _, w := range []uint64{19, 20, 21} {
		wantClose(t, 1, 10, []one{{w, 0}, {6, 2}}, kept(0, max(w, 20), 1))
	}
	// next is 7 by 3 of 10: 70/3 is no whole number: 23 is below it, 24 above it
	wantClose(t, 1, 10, []one{{23, 0}, {7, 2}}, kept(0, 70, 3))
	wantClose(t, 1, 10, []one{{24, 0}, {7, 2}}, kept(0, 24, 1))
	// with draws 0: next is 5 by 2^63: 10; by 2^63 + 1: not quite 10; by 2^63 - 1: somewhat above it
	for _, w := range []uint64{9, 10, 11} {
		wantClose(t, 1, 0, []one{{w, 0}, {5, 1<<63 - 1}}, kept(0, max(w, 10), 1))
	}
	wantClose(t, 1, 0, []one{{10, 0}, {5, 1 << 63}}, kept(0, 10, 1))
	wantClose(t, 1, 0, []one{{10, 0}, {1, 1<<63 - 2}}, kept(0, 10, 1))
	wantClose(t, 1, 0, []one{{10, 0}, {5, 1<<63 - 2}}, kept(0, greatest, 1<<63-1)) // 5 times 2^64, by an odd number
	wantClose(t, 1, 0, []one{{11, 0}, {5, 1<<63 - 2}}, kept(0, 11, 1))
}

// Num and Den have no divisor in common. (The one that is kept weighs as much as the next one, and so less than M times P.)
func TestLowestTerms(t *testing.T) {
	for _, c := range []struct{ draws, weight, draw, num, den uint64 }{
		{12, 1, 0, 12, 1}, {12, 1, 1, 6, 1}, {12, 1, 2, 4, 1}, {12, 1, 3, 3, 1}, {12, 1, 4, 12, 5}, {12, 1, 5, 2, 1},
		{12, 1, 6, 12, 7}, {12, 1, 7, 3, 2}, {12, 1, 8, 4, 3}, {12, 1, 9, 6, 5}, {12, 1, 10, 12, 11},
		{12, 6, 4, 72, 5}, {12, 6, 7, 9, 1}, {12, 10, 3, 30, 1}, {12, 9, 7, 27, 2}, {12, 3, 9, 18, 5},
		{1 << 32, 3, 5, 1 << 31, 1}, {1 << 32, 3, 8, 1 << 32, 3}, {1 << 63, 1, 1<<61 - 1, 4, 1}, {1 << 63, 1, 1 << 61, 1 << 63, 1<<61 + 1},
		{greatest, 1, 2, greatest / 3, 1}, {greatest, 2, 1, greatest, 1}, {greatest, 1, 1, greatest, 2},
	} {
		wantClose(t, 1, c.draws, []one{{c.weight, 0}, {c.weight, c.draw}}, kept(0, c.num, c.den))
	}
}

// With draws 0 M is 2^64: what is not below that then is the greatest number below it; Den stays what it is.
func TestOf64Digits(t *testing.T) {
	for _, c := range []struct{ weight, draw, num, den uint64 }{
		{1, 0, greatest, 1}, {3, 0, greatest, 1}, {1 << 32, 0, greatest, 1}, // 2^64 times a weight
		{1, 1, 1 << 63, 1}, {2, 1, greatest, 1}, {1, 3, 1 << 62, 1}, {3, 3, 3 << 62, 1}, {4, 3, greatest, 1}, {5, 3, greatest, 1},
		{1, 2, greatest, 3}, {2, 2, greatest, 3}, {3, 2, greatest, 1}, {9, 2, greatest, 1}, {1, 5, 1 << 63, 3}, {5, 9, 1 << 63, 1},
		{1, 1<<32 - 1, 1 << 32, 1}, {1, 1 << 32, greatest, 1<<32 + 1}, {7, 1<<40 - 1, 7 << 24, 1}, {6, 3<<40 - 1, 1 << 25, 1},
		{1 << 32, 1<<33 - 1, 1 << 63, 1}, {1 << 32, 1<<32 - 1, greatest, 1}, {1<<32 - 1, 1<<32 - 1, 1<<64 - 1<<32, 1},
	} {
		wantClose(t, 1, 0, []one{{c.weight, 0}, {c.weight, c.draw}}, kept(0, c.num, c.den))
	}
}

// With fewer draws than 2^64, too, M times a weight may have more than 64 digits; what is left of them by d + 1 may have fewer.
func TestGreatProducts(t *testing.T) {
	wantClose(t, 1, greatest, []one{{3, 0}, {2, 0}}, kept(0, greatest, 1))
	wantClose(t, 1, greatest, []one{{1, 0}, {1, 0}}, kept(0, greatest, 1))
	wantClose(t, 1, greatest, []one{{3, 0}, {2, 2}}, kept(0, greatest/3*2, 1))
	wantClose(t, 1, greatest, []one{{4, 0}, {3, 1}}, kept(0, greatest, 2))
	wantClose(t, 1, 1<<63, []one{{1, 0}, {1, 0}}, kept(0, 1<<63, 1))
	wantClose(t, 1, 1<<63, []one{{3, 0}, {2, 0}}, kept(0, greatest, 1))
	wantClose(t, 1, 1<<63, []one{{3, 0}, {2, 6}}, kept(0, greatest, 7))
	wantClose(t, 1, 1<<63, []one{{3, 0}, {2, 3}}, kept(0, 1<<62, 1))
	wantClose(t, 1, 1<<63, []one{{1 << 32, 0}, {1 << 32, 1<<62 - 1}}, kept(0, 1<<33, 1))
	wantClose(t, 1, 1<<32+1, []one{{1 << 32, 0}, {1<<32 - 1, 0}}, kept(0, greatest, 1)) // (2^32 + 1)(2^32 - 1)
	wantClose(t, 1, 1<<32+1, []one{{1 << 32, 0}, {1 << 32, 0}}, kept(0, greatest, 1))   // 2^64 and more
	wantClose(t, 1, 1<<32, []one{{1 << 32, 0}, {1 << 32, 0}}, kept(0, greatest, 1))     // 2^64
	wantClose(t, 1, 1<<32, []one{{1 << 32, 0}, {1<<32 - 1, 0}}, kept(0, 1<<64-1<<32, 1))
}

// Behind Close none were offered: the same offers are kept alike again, and nothing of what was offered ahead of it counts.
func TestCloseBeginsAnew(t *testing.T) {
	heavy := []one{{1 << 32, 0}, {1 << 32, 1}, {1 << 32, 2}, {1 << 32, 3}}
	light := []one{{2, 3}, {1, 0}, {3, 9}, {3, 8}, {1, 4}}
	for _, draws := range []uint64{0, 1, 2, 10, greatest} {
		for _, keep := range []int{1, 2, 3, 4, 5, 6} {
			want := offer(t, keep, draws, light).close(t)
			wanted := offer(t, keep, draws, heavy).close(t)
			p := pairOf(keep, draws)
			for round := range 6 {
				all, kept := light, want
				if round%3 == 1 {
					all, kept = heavy, wanted
				}
				for _, x := range all {
					p.add(t, x.weight, x.draw)
				}
				if got := p.close(t); !slices.Equal(got, kept) {
					t.Errorf("keep %d, draws %d, round %d: %v; want %v", keep, draws, round, got, kept)
				}
				if got := p.s.Close(); len(got) != 0 {
					t.Errorf("Close behind Close: %v; want none", got)
				}
			}
		}
	}
}

// What is told is new memory: it shares none with what is kept, nor with another answer; nothing lies behind its length.
func TestCloseIsNewMemory(t *testing.T) {
	for _, keep := range []int{1, 2, 3, 5, 9, 100} {
		for _, n := range []int{1, 2, 3, 5, 9, 10, 33, 200} {
			var all []one
			for i := range n {
				all = append(all, one{uint64(1 + i*i%11), uint64(i * 7)})
			}
			p := offer(t, keep, 100, all)
			got := p.close(t)
			want := slices.Clone(got)
			if cap(got) != len(got) {
				t.Errorf("keep %d of %d: %d lie behind what is told", keep, n, cap(got)-len(got))
			}
			for _, x := range all[:n/2] {
				p.add(t, x.weight, x.draw)
			}
			for i := range got {
				got[i] = kept(-i, 77, 0)
			}
			for _, x := range all[n/2:] {
				p.add(t, x.weight, x.draw)
			}
			other := p.close(t)
			if !slices.Equal(other, want) {
				t.Errorf("keep %d of %d: Close again: %v; want %v", keep, n, other, want)
			}
			for _, x := range all {
				p.add(t, 1+x.weight, x.draw+1)
			}
			p.close(t)
			if !slices.Equal(other, want) {
				t.Errorf("keep %d of %d: what was told, when others came: %v; want %v", keep, n, other, want)
			}
		}
	}
}
