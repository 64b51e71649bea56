package prio_test

import (
	"math/big"
	"math/rand"
	"slices"
	"testing"

	"telemeter/prio"
)

// eachRow tells each row of so many draws below draws.
func eachRow(n int, draws uint64, visit func(row []uint64)) {
	row := make([]uint64, n)
	for {
		visit(row)
		i := 0
		for i < n && row[i] == draws-1 {
			row[i] = 0
			i++
		}
		if i == n {
			return
		}
		row[i]++
	}
}

// over is what each of these weights counts for, over all rows of draws, and how many rows there are; all is asked of one sampler.
func over(t *testing.T, keep int, draws uint64, weights []uint64) ([]*big.Rat, int64) {
	t.Helper()
	s := prio.New(keep, draws)
	sums := make([]*big.Rat, len(weights))
	for i := range sums {
		sums[i] = new(big.Rat)
	}
	rows := int64(0)
	eachRow(len(weights), draws, func(row []uint64) {
		rows++
		for i, w := range weights {
			s.Add(w, row[i])
		}
		l := s.Close()
		if len(l) != min(keep, len(weights)) {
			t.Fatalf("%v by %v, keep %d: %v", weights, row, keep, l)
		}
		for _, k := range l {
			sums[k.Place].Add(sums[k.Place], new(big.Rat).SetFrac(number(k.Num), number(k.Den)))
		}
	})
	return sums, rows
}

// holds: over all draws what is kept counts for no more than all (and so does each by itself), and for all, if there are no more than are kept.
func holds(t *testing.T, keep int, draws uint64, weights []uint64) *big.Rat {
	t.Helper()
	sums, rows := over(t, keep, draws, weights)
	kept, all := new(big.Rat), new(big.Rat)
	for i, w := range weights {
		own := new(big.Rat).SetInt(new(big.Int).Mul(number(w), big.NewInt(rows)))
		if sums[i].Cmp(own) > 0 {
			t.Errorf("%v, keep %d, draws %d: the one of place %d counts for %v; want %v at most", weights, keep, draws, i, sums[i], own)
		}
		kept.Add(kept, sums[i])
		all.Add(all, own)
	}
	if kept.Cmp(all) > 0 || len(weights) <= keep && kept.Cmp(all) != 0 {
		t.Errorf("%v, keep %d, draws %d: they count for %v of %v", weights, keep, draws, kept, all)
	}
	return kept.Quo(kept, all)
}

// eachWeights tells each row of so many weights from 1 to most.
func eachWeights(n int, most uint64, visit func(weights []uint64)) {
	eachRow(n, most, func(row []uint64) {
		weights := slices.Clone(row)
		for i := range weights {
			weights[i]++
		}
		visit(weights)
	})
}

func TestOverAllDraws(t *testing.T) {
	for _, c := range []struct {
		n           int
		draws, most uint64
	}{
		{1, 1, 9}, {1, 9, 9}, {2, 1, 9}, {2, 2, 9}, {2, 3, 6}, {2, 7, 5}, {3, 1, 5}, {3, 2, 5}, {3, 3, 4}, {3, 5, 3}, {4, 1, 3}, {4, 2, 3}, {4, 4, 2},
	} {
		eachWeights(c.n, c.most, func(weights []uint64) {
			for keep := 1; keep <= c.n+1; keep++ {
				holds(t, keep, c.draws, weights)
			}
		})
	}
}

// Weights far apart, and the greatest, by more draws.
func TestOverAllDrawsOfFarWeights(t *testing.T) {
	for _, weights := range [][]uint64{
		{1 << 32}, {1 << 32, 1}, {1 << 32, 1 << 32}, {1, 1000, 1 << 32}, {1<<32 - 1, 1 << 31, 7}, {5, 5, 5}, {1, 2, 4}, {100, 1, 1}, {97, 89, 83},
	} {
		for _, draws := range []uint64{1, 2, 10, 16, 23} {
			for keep := 1; keep <= len(weights); keep++ {
				holds(t, keep, draws, weights)
			}
		}
	}
	for _, weights := range [][]uint64{{1, 1, 1, 1, 1}, {1, 2, 3, 4, 5}, {9, 1, 9, 1, 9}, {1 << 32, 1, 1, 1, 1}} {
		for keep := 1; keep <= len(weights); keep++ {
			holds(t, keep, 6, weights)
		}
	}
}

// By many draws it counts for nearly all: no more is missing than does not come out even.
func TestOverAllDrawsIsNearAll(t *testing.T) {
	for _, weights := range [][]uint64{{1, 1}, {1, 2}, {2, 1}, {3, 7}, {100, 1}} {
		if part := holds(t, 1, 300, weights); part.Cmp(big.NewRat(98, 100)) < 0 {
			f, _ := part.Float64()
			t.Errorf("%v: %v of all", weights, f)
		}
	}
}

// Rows of offers, drawn, against a plain list that is sorted: a few offers, of weights and draws many of which are alike.
func TestAsWordedOfFew(t *testing.T) {
	drawn(2, 20000, func(r *rand.Rand) {
		draws := uint64(r.Intn(13))
		p := pairOf(1+r.Intn(5), draws)
		for range 1 + r.Intn(3) {
			for range r.Intn(9) {
				p.add(t, uint64(r.Intn(9)), uint64(r.Intn(20)))
			}
			p.close(t)
		}
	})
}

// And of any weights, draws, and M.
func TestAsWordedOfAny(t *testing.T) {
	drawn(3, 5000, func(r *rand.Rand) {
		p := pairOf(1+r.Intn(6), anyNumber(r))
		for range 2 {
			for range r.Intn(20) {
				if r.Intn(10) == 0 {
					p.add(t, anyNumber(r), anyNumber(r))
					continue
				}
				p.add(t, anyWeight(r), anyNumber(r))
			}
			p.close(t)
		}
	})
}

// And of many offers, as many as may be kept, and more.
func TestAsWordedOfMany(t *testing.T) {
	drawn(4, 12, func(r *rand.Rand) {
		p := pairOf([]int{mostKept, mostKept - 1, 1 + r.Intn(mostKept)}[r.Intn(3)], []uint64{0, 1, 1000, 1 << 56}[r.Intn(4)])
		for range 1 + r.Intn(4*mostKept) {
			p.add(t, anyWeight(r), r.Uint64())
		}
		p.close(t)
		p.add(t, 1, 1)
		p.close(t)
	})
}

// And of priorities that rise, or fall, from the first to the last.
func TestAsWordedInOrder(t *testing.T) {
	for _, keep := range []int{1, 2, 3, 10, 64} {
		for _, draws := range []uint64{0, 1, 7, 1000} {
			rise, fall := pairOf(keep, draws), pairOf(keep, draws)
			for i := range uint64(200) {
				rise.add(t, i+1, 0)
				fall.add(t, 200-i, 0)
			}
			rise.close(t)
			fall.close(t)
			for i := range uint64(200) {
				rise.add(t, 50, 200-i)
				fall.add(t, 50, i)
			}
			rise.close(t)
			fall.close(t)
		}
	}
}
