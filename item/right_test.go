package item_test

import (
	"math"
	"math/rand"
	"strings"
	"testing"

	"telemeter/api"
)

// spanWith and logWith are whole ones of which one thing is another one.
func spanWith(other func(s *api.Span)) api.Item {
	x := wholeSpan()
	other(&x.Span)
	return x
}

func logWith(other func(l *api.Log)) api.Item {
	x := wholeLog()
	other(&x.Log)
	return x
}

func withAttrs(attrs ...api.Attr) api.Item {
	return spanWith(func(s *api.Span) { s.Attrs = attrs })
}

func TestLeastAndWhole(t *testing.T) {
	wantRight(t, leastSpan(), true)
	wantRight(t, leastLog(), true)
	wantRight(t, wholeSpan(), true)
	wantRight(t, wholeLog(), true)
	wantRight(t, api.Item{Kind: 1}, false)
	wantRight(t, api.Item{Kind: 2}, false)
}

// Names stand at three places: each name is tried at all of them.
func TestNames(t *testing.T) {
	try := func(s string, want bool) {
		t.Helper()
		wantRight(t, spanWith(func(x *api.Span) { x.Name = s }), want)
		wantRight(t, withAttrs(api.Attr{Key: s, Val: "v"}), want)
		wantRight(t, logWith(func(x *api.Log) { x.Key = s }), want)
	}
	try("", false)
	try("a", true)
	try(strings.Repeat("a", 59), true)
	try(strings.Repeat("~", 60), true)
	try(strings.Repeat("a", 61), false)
	try(strings.Repeat("a", 100000), false)
	for c := range 0x100 {
		one := string([]byte{byte(c)})
		want := c >= 0x21 && c <= 0x7e
		for _, s := range []string{one, one + "bc", "a" + one + "c", "ab" + one, strings.Repeat("a", 59) + one} {
			try(s, want)
		}
		try(strings.Repeat("a", 60)+one, false)
	}
	try("é", false)
	try("a b", false)
}

// A name at a later place of Attrs is asked for, too.
func TestLaterKeys(t *testing.T) {
	for _, key := range []string{"", " ", "z z", "z\x7f", strings.Repeat("z", 61)} {
		wantRight(t, withAttrs(api.Attr{Key: "a"}, api.Attr{Key: key}), false)
	}
	wantRight(t, withAttrs(api.Attr{Key: "a"}, api.Attr{Key: strings.Repeat("z", 60)}), true)
}

func TestTraceAndID(t *testing.T) {
	for _, c := range []struct {
		hi, lo, id uint64
		want       bool
	}{
		{0, 0, 1, false}, {0, 1, 1, true}, {1, 0, 1, true}, {1, 1, 1, true},
		{1, 1, 0, false}, {0, 1, 0, false}, {1, 0, 0, false}, {0, 0, 0, false},
		{math.MaxUint64, math.MaxUint64, math.MaxUint64, true},
		{1 << 63, 0, 1 << 63, true}, {0, 1 << 63, 1, true},
		{1, math.MaxUint64, 1, true}, // their sum is 0, modulo 2^64
	} {
		wantRight(t, spanWith(func(s *api.Span) { s.Hi, s.Lo, s.ID = c.hi, c.lo, c.id }), c.want)
	}
	for _, parent := range []uint64{0, 1, 1 << 63, math.MaxUint64} {
		wantRight(t, spanWith(func(s *api.Span) { s.Parent = parent }), true)
	}
}

func TestTimes(t *testing.T) {
	const top = 1 << 40
	for _, c := range []struct {
		start, end int
		want       bool
	}{
		{0, 0, true}, {0, 1, true}, {1, 1, true}, {0, top, true}, {top, top, true}, {top - 1, top, true},
		{1, 0, false}, {top, top - 1, false}, {top, 0, false},
		{-1, 0, false}, {-1, -1, false}, {0, -1, false}, {-2, -1, false},
		{0, top + 1, false}, {top, top + 1, false}, {top + 1, top + 1, false}, {top + 1, top, false},
		{math.MinInt, 0, false}, {math.MinInt, math.MaxInt, false}, {0, math.MaxInt, false}, {math.MaxInt, math.MaxInt, false},
		{0, math.MinInt, false},
	} {
		wantRight(t, spanWith(func(s *api.Span) { s.Start, s.End = c.start, c.end }), c.want)
	}
	for _, c := range []struct {
		at   int
		want bool
	}{
		{0, true}, {1, true}, {top - 1, true}, {top, true}, {top + 1, false}, {-1, false}, {math.MaxInt, false}, {math.MinInt, false},
	} {
		wantRight(t, logWith(func(l *api.Log) { l.At = c.at }), c.want)
	}
}

func TestRv(t *testing.T) {
	for _, rv := range []uint64{0, 1, 1<<56 - 1, 1 << 56} {
		wantRight(t, spanWith(func(s *api.Span) { s.Rv = rv }), true)
	}
	for _, rv := range []uint64{1<<56 + 1, 1 << 57, 1 << 63, math.MaxUint64} {
		wantRight(t, spanWith(func(s *api.Span) { s.Rv = rv }), false)
	}
}

func TestBad(t *testing.T) {
	for _, bad := range []bool{false, true} {
		wantRight(t, spanWith(func(s *api.Span) { s.Bad = bad }), true)
	}
}

func TestHowManyAttrs(t *testing.T) {
	var attrs []api.Attr
	for i := range 12 {
		wantRight(t, withAttrs(attrs...), i <= 8)
		attrs = append(attrs, api.Attr{Key: string(rune('a' + i)), Val: "v"})
	}
	wantRight(t, spanWith(func(s *api.Span) { s.Attrs = []api.Attr{} }), true) // R6
	wantRight(t, spanWith(func(s *api.Span) { s.Attrs = nil }), true)
}

func TestKeysRise(t *testing.T) {
	for _, c := range []struct {
		keys string
		want bool
	}{
		{"a b", true}, {"b a", false}, {"a a", false},
		{"a b c", true}, {"a c b", false}, {"b a c", false}, {"a b b", false}, {"a a b", false}, {"a b a", false},
		{"a aa", true}, {"aa a", false}, {"a a!", true}, {"a! a", false}, {"aa b", true}, {"b aa", false},
		{"ab abc abd", true}, {"ab abd abc", false},
		{"Z a", true}, {"a Z", false}, // byte by byte: not as letters are ordered
		{"10 9", true}, {"9 10", false},
		{"! ~", true}, {"~ !", false},
	} {
		var attrs []api.Attr
		for i, key := range strings.Fields(c.keys) {
			attrs = append(attrs, api.Attr{Key: key, Val: string(rune('9' - i))})
		}
		wantRight(t, withAttrs(attrs...), c.want)
	}
}

func TestVals(t *testing.T) {
	for _, c := range []struct {
		val  string
		want bool
	}{
		{"", true}, {"a b", true}, {"\x00\x20\x7f\x80\xff", true}, {strings.Repeat("\x00", 59), true},
		{strings.Repeat("v", 60), true}, {strings.Repeat("v", 61), false}, {strings.Repeat("v", 100000), false},
		{strings.Repeat("é", 30), true}, {strings.Repeat("é", 30) + "v", false}, {strings.Repeat("é", 31), false},
	} {
		wantRight(t, withAttrs(api.Attr{Key: "k", Val: c.val}), c.want)
		wantRight(t, withAttrs(api.Attr{Key: strings.Repeat("k", 60), Val: c.val}), c.want)
		wantRight(t, withAttrs(api.Attr{Key: "a"}, api.Attr{Key: "b", Val: c.val}, api.Attr{Key: "c"}), c.want)
	}
	val := strings.Repeat("v", 60) // all as long as they may be: the lengths need more bytes
	var attrs []api.Attr
	for i := range 8 {
		attrs = append(attrs, api.Attr{Key: strings.Repeat("k", 59) + string(rune('a'+i)), Val: val})
	}
	wantRight(t, withAttrs(attrs...), true)
	attrs[7].Val += "v"
	wantRight(t, withAttrs(attrs...), false)
}

func TestWeights(t *testing.T) {
	for _, c := range []struct {
		weight uint64
		want   bool
	}{
		{0, false}, {1, true}, {2, true}, {1<<32 - 1, true}, {1 << 32, true},
		{1<<32 + 1, false}, {1 << 33, false}, {1 << 63, false}, {math.MaxUint64, false},
	} {
		wantRight(t, logWith(func(l *api.Log) { l.Weight = c.weight }), c.want)
	}
}

func TestBodies(t *testing.T) {
	for _, c := range []struct {
		body string
		want bool
	}{
		{"", true}, {" ", true}, {"\x00\x20\x7f\x80\xff\n", true}, {strings.Repeat("b", 127), true}, {strings.Repeat("b", 128), true},
		{strings.Repeat("\xff", 199), true}, {strings.Repeat("b", 200), true}, {strings.Repeat("b", 201), false},
		{strings.Repeat("é", 100), true}, {strings.Repeat("é", 100) + "b", false}, {strings.Repeat("b", 100000), false},
	} {
		wantRight(t, logWith(func(l *api.Log) { l.Body = c.body }), c.want)
	}
}

// spoilt makes one field what it may, or may not, be.
func spoilt(r *rand.Rand, x *api.Item) {
	number := []uint64{0, 1, 1 << 32, 1<<32 + 1, 1 << 56, 1<<56 + 1, 1 << 63, math.MaxUint64}[r.Intn(8)]
	time := []int{-1, 0, 1, 1 << 39, 1 << 40, 1<<40 + 1, math.MinInt, math.MaxInt}[r.Intn(8)]
	text := []string{"", "a", "a b", strings.Repeat("z", 60), strings.Repeat("z", 61), strings.Repeat("z", 200), strings.Repeat("z", 201)}[r.Intn(7)]
	s, l := &x.Span, &x.Log
	fields := []func(){
		func() { s.Hi = number }, func() { s.Lo = number }, func() { s.ID = number }, func() { s.Parent = number },
		func() { s.Name = text }, func() { s.Start = time }, func() { s.End = time }, func() { s.Rv = number },
		func() { s.Attrs = append(s.Attrs, api.Attr{Key: text, Val: text}) },
		func() { l.Key = text }, func() { l.Weight = number }, func() { l.At = time }, func() { l.Body = text },
	}
	if x.Kind == 1 {
		fields[r.Intn(9)]()
	} else {
		fields[9+r.Intn(4)]()
	}
}

func TestRightAsWorded(t *testing.T) {
	rights := 0
	drawn(2, 20000, func(r *rand.Rand) {
		x := drawnItem(r)
		for range r.Intn(3) {
			spoilt(r, &x)
		}
		want := rightByWords(x)
		wantRight(t, x, want)
		if want {
			rights++
		}
	})
	if rights < 2000 || rights > 18000 {
		t.Errorf("%d of 20000 are right: the draws try too little", rights)
	}
}
