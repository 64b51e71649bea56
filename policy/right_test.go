package policy_test

import (
	"math"
	"math/rand"
	"slices"
	"strings"
	"testing"

	"telemeter/api"
)

// alone asks of a rule that is the only one, and of it among others that are right.
func alone(t *testing.T, r api.Rule, want bool) {
	t.Helper()
	wantRight(t, [][]api.Rule{{r}}, want)
	wantRight(t, [][]api.Rule{{wrong(), r}}, want)
	wantRight(t, [][]api.Rule{{r, wrong()}}, want)
	wantRight(t, [][]api.Rule{{slow(1), r, many(2)}}, want)
	wantRight(t, [][]api.Rule{{has("k", "v")}, {r}}, want)
	wantRight(t, [][]api.Rule{{r}, {share(3)}}, want)
	wantRight(t, [][]api.Rule{{slow(1)}, {wrong(), r, wrong()}, {share(3)}}, want)
}

func TestRightOfNoRows(t *testing.T) {
	wantRight(t, nil, true)
	wantRight(t, [][]api.Rule{}, true)
}

// In each row there is one at least.
func TestRightOfRowsWithoutRules(t *testing.T) {
	one := []api.Rule{wrong()}
	wantRight(t, [][]api.Rule{one}, true)
	for _, none := range [][]api.Rule{nil, {}, make([]api.Rule, 0, 3), one[:0]} {
		wantRight(t, [][]api.Rule{none}, false)
		wantRight(t, [][]api.Rule{none, one}, false)
		wantRight(t, [][]api.Rule{one, none}, false)
		wantRight(t, [][]api.Rule{one, none, one}, false)
		wantRight(t, [][]api.Rule{none, none}, false)
	}
}

// rowsOf are rows of so many rules that are right.
func rowsOf(sizes ...int) [][]api.Rule {
	var l [][]api.Rule
	for _, n := range sizes {
		l = append(l, slices.Repeat([]api.Rule{slow(5)}, n))
	}
	return l
}

// 20 rules may be, in one row and in several.
func TestRightCountsRules(t *testing.T) {
	ones := slices.Repeat([]int{1}, 21)
	for _, c := range []struct {
		sizes []int
		want  bool
	}{
		{[]int{1}, true}, {[]int{2}, true}, {[]int{19}, true}, {[]int{20}, true}, {[]int{21}, false}, {[]int{22}, false}, {[]int{1000}, false},
		{[]int{10, 10}, true}, {[]int{10, 11}, false}, {[]int{11, 10}, false}, {[]int{1, 19}, true}, {[]int{19, 1}, true},
		{[]int{20, 1}, false}, {[]int{1, 20}, false}, {[]int{20, 20}, false}, {[]int{7, 7, 6}, true}, {[]int{7, 7, 7}, false},
		{[]int{20, 0}, false}, {[]int{0, 20}, false}, {[]int{1, 21}, false}, {[]int{21, 1}, false},
		{ones[:19], true}, {ones[:20], true}, {ones, false}, {slices.Repeat(ones, 10), false},
	} {
		wantRight(t, rowsOf(c.sizes...), c.want)
	}
	for n := 1; n <= 30; n++ {
		wantRight(t, rowsOf(n), n <= 20)
		wantRight(t, rowsOf(slices.Repeat([]int{1}, n)...), n <= 20)
		for more := 1; more <= 25; more++ {
			wantRight(t, rowsOf(n, more), n+more <= 20)
		}
	}
}

// The last rule of 20 is asked for, too.
func TestRightOfEachPlace(t *testing.T) {
	for place := range mostRule {
		l := rowsOf(7, 7, 6)
		l[place/7][place%7] = api.Rule{}
		wantRight(t, l, false)
		l = rowsOf(20)
		l[0][place] = slow(-1)
		wantRight(t, l, false)
	}
}

func TestRightKinds(t *testing.T) {
	for kind := range 256 {
		alone(t, api.Rule{Kind: uint8(kind)}, kind == 1 || kind == 2 || kind == 4 || kind == 5)
		alone(t, api.Rule{Kind: uint8(kind), Key: "k", Val: "v"}, kind == 3)
		alone(t, api.Rule{Kind: uint8(kind), Key: "k"}, kind == 3)
		alone(t, api.Rule{Kind: uint8(kind), A: 1}, kind == 1 || kind == 4 || kind == 5)
		alone(t, api.Rule{Kind: uint8(kind), A: -1}, false)
	}
}

func TestRightA(t *testing.T) {
	hasOf := func(a int) api.Rule { return api.Rule{Kind: 3, A: a, Key: "k", Val: "v"} }
	wrongOf := func(a int) api.Rule { return api.Rule{Kind: 2, A: a} }
	for _, a := range edges() {
		alone(t, slow(a), a >= 0)
		alone(t, many(a), a >= 0)
		alone(t, share(a), a >= 0 && a <= whole)
		alone(t, wrongOf(a), a == 0)
		alone(t, hasOf(a), a == 0)
	}
	alone(t, share(whole), true)
	alone(t, share(whole+1), false)
	alone(t, share(math.MaxInt), false)
	alone(t, slow(whole+1), true)
	alone(t, many(math.MaxInt), true)
}

func TestRightTextsOfHas(t *testing.T) {
	for _, letter := range []string{"k", " ", "\x00", "\xff"} { // of any bytes
		for _, key := range []int{0, 1, 2, 30, 59, 60, 61, 62, 1000} {
			for _, val := range []int{0, 1, 2, 30, 59, 60, 61, 62, 1000} {
				want := key >= 1 && key <= 60 && val <= 60
				alone(t, has(strings.Repeat(letter, key), strings.Repeat(letter, val)), want)
			}
		}
	}
	alone(t, has(strings.Repeat("é", 30), strings.Repeat("é", 30)), true) // bytes are counted, not signs
	alone(t, has(strings.Repeat("é", 30)+"k", ""), false)
	alone(t, has("k", strings.Repeat("é", 30)+"v"), false)
}

func TestRightTextsOfOthers(t *testing.T) {
	for _, r := range []api.Rule{slow(0), slow(5), wrong(), many(0), many(5), share(0), share(5)} {
		alone(t, r, true)
		for _, s := range []string{"k", " ", "\x00", strings.Repeat("k", 60), strings.Repeat("k", 61)} {
			x := r
			x.Key = s
			alone(t, x, false)
			x.Val = s
			alone(t, x, false)
			x.Key = ""
			alone(t, x, false)
		}
	}
}

// rightRule is drawn; one of ten has one thing that is not right, perhaps.
func rightRule(r *rand.Rand) api.Rule {
	x := []api.Rule{slow(r.Int()), wrong(), has(strings.Repeat("k", 1+r.Intn(60)), strings.Repeat("v", r.Intn(61))), many(r.Int()), share(r.Intn(whole + 1))}[r.Intn(5)]
	if r.Intn(40) > 0 {
		return x
	}
	switch r.Intn(4) {
	case 0:
		x.Kind = uint8(r.Intn(8))
	case 1:
		x.A = anyInt(r)
	case 2:
		x.Key = strings.Repeat("k", r.Intn(63))
	case 3:
		x.Val = strings.Repeat("v", r.Intn(63))
	}
	return x
}

func TestRightAsWorded(t *testing.T) {
	counts := map[bool]int{}
	drawn(t, 1, 50000, func(r *rand.Rand) {
		var l [][]api.Rule
		for range r.Intn(8) {
			n := 1 + r.Intn(5)
			if r.Intn(30) == 0 {
				n = r.Intn(25)
			}
			var x []api.Rule
			for range n {
				x = append(x, rightRule(r))
			}
			l = append(l, x)
		}
		want := rightByWords(l)
		counts[want]++
		wantRight(t, l, want)
	})
	drawn(t, 2, 20000, func(r *rand.Rand) {
		l := anyRows(r)
		wantRight(t, l, rightByWords(l))
	})
	if counts[true] < 5000 || counts[false] < 5000 {
		t.Errorf("what was drawn is right %d times, and %d times not", counts[true], counts[false])
	}
}
