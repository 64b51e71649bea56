package prio_test

import (
	"math"
	"math/big"
	"math/rand"
	"slices"
	"testing"

	"telemeter/api"
	"telemeter/prio"
)

// What the chapter words, written another way than the program is: the tests hold one against the other.

const (
	mostKept  = 1000
	mostHeavy = 1 << 32
)

func number(n uint64) *big.Int { return new(big.Int).SetUint64(n) }

// whole is M: how many draws there are.
func whole(draws uint64) *big.Int {
	if draws == 0 {
		return new(big.Int).Lsh(big.NewInt(1), 64)
	}
	return number(draws)
}

// priority is a weight divided by a draw and 1.
func priority(weight uint64, draw *big.Int) *big.Rat {
	return new(big.Rat).SetFrac(number(weight), new(big.Int).Add(draw, big.NewInt(1)))
}

// offered is one that was offered.
type offered struct {
	place    int
	weight   uint64
	priority *big.Rat
}

// byWords is a plain list of all that were offered, which is sorted when it is closed.
type byWords struct {
	keep  int
	draws *big.Int
	list  []offered
}

func (w *byWords) add(weight, draw uint64) (int, api.Errno) {
	if weight == 0 || weight > mostHeavy {
		return -1, api.ErrArg
	}
	place := len(w.list)
	own := new(big.Int).Mod(number(draw), w.draws)
	w.list = append(w.list, offered{place, weight, priority(weight, own)})
	return place, api.OK
}

// sorted are all that were offered, the greatest ahead; the sort leaves those that are alike as they came.
func (w *byWords) sorted() []offered {
	l := slices.Clone(w.list)
	slices.SortStableFunc(l, func(a, b offered) int { return b.priority.Cmp(a.priority) })
	return l
}

// bar is M times the priority of the greatest of all others; 0, if there are no others.
func (w *byWords) bar() *big.Rat {
	if len(w.list) <= w.keep {
		return new(big.Rat)
	}
	return new(big.Rat).Mul(new(big.Rat).SetInt(w.draws), w.sorted()[w.keep].priority)
}

func (w *byWords) close() []api.Kept {
	bar := w.bar()
	l := w.sorted()
	l = l[:min(w.keep, len(l))]
	slices.SortFunc(l, func(a, b offered) int { return a.place - b.place })
	w.list = nil
	var all []api.Kept
	for _, o := range l {
		x := new(big.Rat).SetInt(number(o.weight))
		if bar.Cmp(x) > 0 {
			x = bar
		}
		all = append(all, api.Kept{Place: o.place, Num: capped(x.Num()), Den: capped(x.Denom())})
	}
	return all
}

func capped(n *big.Int) uint64 {
	if n.IsUint64() {
		return n.Uint64()
	}
	return math.MaxUint64
}

// pair is a sampler, and what the words have it hold.
type pair struct {
	s *prio.Sampler
	w *byWords
}

func pairOf(keep int, draws uint64) *pair {
	return &pair{prio.New(keep, draws), &byWords{keep: keep, draws: whole(draws)}}
}

func (p *pair) add(t *testing.T, weight, draw uint64) {
	t.Helper()
	want, wanted := p.w.add(weight, draw)
	if got, e := p.s.Add(weight, draw); got != want || e != wanted {
		t.Fatalf("Add(%d, %d): %d, %d; want %d, %d", weight, draw, got, e, want, wanted)
	}
	if n := p.s.Len(); n != len(p.w.list) {
		t.Fatalf("Len: %d; want %d", n, len(p.w.list))
	}
}

func (p *pair) close(t *testing.T) []api.Kept {
	t.Helper()
	n := len(p.w.list)
	want := p.w.close()
	got := p.s.Close()
	if !slices.Equal(got, want) {
		t.Fatalf("Close of %d by keep %d, draws %v: %v; want %v", n, p.w.keep, p.w.draws, got, want)
	}
	if n := p.s.Len(); n != 0 {
		t.Fatalf("Len behind Close: %d", n)
	}
	return got
}

// one is a weight and a draw to be offered.
type one struct{ weight, draw uint64 }

// offer offers them to a new pair.
func offer(t *testing.T, keep int, draws uint64, all []one) *pair {
	t.Helper()
	p := pairOf(keep, draws)
	for _, x := range all {
		p.add(t, x.weight, x.draw)
	}
	return p
}

// wantClose: of these offers just those are kept, for so much; written out in the tests, and by the words, too.
func wantClose(t *testing.T, keep int, draws uint64, all []one, want ...api.Kept) {
	t.Helper()
	p := offer(t, keep, draws, all)
	if got := p.close(t); !slices.Equal(got, want) {
		t.Errorf("Close of %v by keep %d, draws %d: %v; want %v", all, keep, draws, got, want)
	}
}

// edges are the least and the greatest numbers, and where one has a digit more.
func edges() []uint64 {
	return []uint64{
		0, 1, 2, 3, 5, 6, 7, 1<<31 - 1, 1 << 31, 1<<32 - 1, 1 << 32, 1<<32 + 1, 1<<40 + 1,
		1<<63 - 1, 1 << 63, 1<<63 + 1, math.MaxUint64 / 3, math.MaxUint64 - 2, math.MaxUint64 - 1, math.MaxUint64,
	}
}

func drawn(seed int64, times int, f func(r *rand.Rand)) {
	r := rand.New(rand.NewSource(seed))
	for range times {
		f(r)
	}
}

// anyNumber is of any length, and so often small; sometimes an edge.
func anyNumber(r *rand.Rand) uint64 {
	if r.Intn(4) == 0 {
		return edges()[r.Intn(len(edges()))]
	}
	return r.Uint64() >> r.Intn(64)
}

// anyWeight is one that may be.
func anyWeight(r *rand.Rand) uint64 {
	if r.Intn(8) == 0 {
		return mostHeavy
	}
	return 1 + r.Uint64()>>(32+r.Intn(32))
}
