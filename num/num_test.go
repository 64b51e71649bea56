package num_test

import (
	"bytes"
	"encoding/binary"
	"math"
	"math/rand"
	"strings"
	"testing"

	"telemeter/api"
	"telemeter/num"
)

// edges: numbers at which Put needs a byte more, and their neighbours.
func edges() []uint64 {
	l := []uint64{0, 1, 2, 300, math.MaxInt64, math.MaxUint64 - 1, math.MaxUint64}
	for shift := 1; shift < 64; shift++ {
		l = append(l, 1<<shift-1, 1<<shift, 1<<shift+1)
	}
	return l
}

func drawn(seed int64, times int, f func(r *rand.Rand)) {
	r := rand.New(rand.NewSource(seed))
	for range times {
		f(r)
	}
}

func wantGet(t *testing.T, b []byte, at int, n uint64, to int, e api.Errno) {
	t.Helper()
	gotN, gotTo, gotE := num.Get(b, at)
	if gotN != n || gotTo != to || gotE != e {
		t.Errorf("Get(% x, %d): %d, %d, %d; want %d, %d, %d", b, at, gotN, gotTo, gotE, n, to, e)
	}
}

func wantText(t *testing.T, b []byte, at, most int, s string, to int, e api.Errno) {
	t.Helper()
	gotS, gotTo, gotE := num.GetText(b, at, most)
	if gotS != s || gotTo != to || gotE != e {
		t.Errorf("GetText(% x, %d, %d): %q, %d, %d; want %q, %d, %d", b, at, most, gotS, gotTo, gotE, s, to, e)
	}
}

func TestPut(t *testing.T) {
	for _, c := range []struct {
		n    uint64
		want string
	}{
		{0, "\x00"},
		{1, "\x01"},
		{0x7f, "\x7f"},
		{0x80, "\x80\x01"},
		{300, "\xac\x02"},
		{0x3fff, "\xff\x7f"},
		{0x4000, "\x80\x80\x01"},
		{1 << 56, "\x80\x80\x80\x80\x80\x80\x80\x80\x01"},
		{1<<63 - 1, "\xff\xff\xff\xff\xff\xff\xff\xff\x7f"},
		{1 << 63, "\x80\x80\x80\x80\x80\x80\x80\x80\x80\x01"},
		{math.MaxUint64, "\xff\xff\xff\xff\xff\xff\xff\xff\xff\x01"},
	} {
		if got := num.Put(c.n); string(got) != c.want {
			t.Errorf("Put(%d): % x; want % x", c.n, got, c.want)
		}
	}
}

func TestPutAgainstLibrary(t *testing.T) {
	check := func(n uint64) {
		if got, want := num.Put(n), binary.AppendUvarint(nil, n); !bytes.Equal(got, want) {
			t.Errorf("Put(%d): % x; want % x", n, got, want)
		}
	}
	for _, n := range edges() {
		check(n)
	}
	drawn(1, 5000, func(r *rand.Rand) { check(r.Uint64() >> r.Intn(64)) })
}

func TestThereAndBack(t *testing.T) {
	check := func(n uint64, ahead, behind string) {
		p := num.Put(n)
		b := []byte(ahead + string(p) + behind)
		wantGet(t, b, len(ahead), n, len(ahead)+len(p), api.OK)
	}
	for _, n := range edges() {
		for _, side := range []string{"", "\x00", "\x80", "\xff\xff"} {
			check(n, side, side)
		}
	}
	drawn(2, 5000, func(r *rand.Rand) { check(r.Uint64()>>r.Intn(64), "\x81", "\x01") })
}

func TestGetPlace(t *testing.T) {
	b := []byte{0xac, 0x02, 0x05}
	wantGet(t, b, 0, 300, 2, api.OK)
	wantGet(t, b, 1, 2, 2, api.OK)
	wantGet(t, b, 2, 5, 3, api.OK)
	wantGet(t, b, 3, 0, 0, api.ErrShort)
	for _, at := range []int{-1, 4, math.MinInt, math.MaxInt} {
		wantGet(t, b, at, 0, 0, api.ErrArg)
	}
}

// R6: nil and empty are the same list.
func TestGetOfNothing(t *testing.T) {
	for _, b := range [][]byte{nil, {}} {
		wantGet(t, b, 0, 0, 0, api.ErrShort)
		wantGet(t, b, 1, 0, 0, api.ErrArg)
		wantGet(t, b, -1, 0, 0, api.ErrArg)
	}
}

func TestGetCutShort(t *testing.T) {
	for _, n := range edges() {
		p := num.Put(n)
		for size := range len(p) {
			wantGet(t, p[:size], 0, 0, 0, api.ErrShort)
			wantGet(t, append([]byte{0}, p[:size]...), 1, 0, 0, api.ErrShort)
		}
	}
	for size := range 10 {
		wantGet(t, bytes.Repeat([]byte{0x80}, size), 0, 0, 0, api.ErrShort)
		wantGet(t, bytes.Repeat([]byte{0xff}, size), 0, 0, 0, api.ErrShort)
	}
}

// Ten bytes count from the place on: those ahead of it make nothing long enough.
func TestGetTenBytesWithMore(t *testing.T) {
	for _, c := range []byte{0x80, 0x81, 0xff} {
		for size := 10; size < 13; size++ {
			b := bytes.Repeat([]byte{c}, size)
			wantGet(t, b, 0, 0, 0, api.ErrForm)
			wantGet(t, append(b, 1), 0, 0, 0, api.ErrForm)
			wantGet(t, b, size-10, 0, 0, api.ErrForm)
			wantGet(t, b, size-9, 0, 0, api.ErrShort)
		}
	}
}

func TestGetNotAsPut(t *testing.T) {
	wantGet(t, []byte{0x80, 0}, 0, 0, 0, api.ErrForm)
	wantGet(t, []byte{0xac, 0x82, 0}, 0, 0, 0, api.ErrForm)
	wantGet(t, []byte{0xac, 0x82, 0x80, 0}, 0, 0, 0, api.ErrForm)
	wantGet(t, []byte{5, 0x81, 0, 7}, 1, 0, 0, api.ErrForm)
	nine := bytes.Repeat([]byte{0x80}, 9)
	for last := range 0x100 {
		b := append(bytes.Clone(nine), byte(last))
		if last == 1 {
			wantGet(t, b, 0, 1<<63, 10, api.OK)
		} else {
			wantGet(t, b, 0, 0, 0, api.ErrForm)
		}
	}
}

// getByWords is Get as the chapter words it, with the library's numbers in Put's place.
func getByWords(b []byte, at int) (uint64, int, api.Errno) {
	if at < 0 || at > len(b) {
		return 0, 0, api.ErrArg
	}
	end := at
	for end < len(b) && b[end] >= 0x80 {
		end++
	}
	if end-at >= 10 {
		return 0, 0, api.ErrForm
	}
	if end == len(b) {
		return 0, 0, api.ErrShort
	}
	n, size := binary.Uvarint(b[at : end+1])
	if size <= 0 || !bytes.Equal(binary.AppendUvarint(nil, n), b[at:end+1]) {
		return 0, 0, api.ErrForm
	}
	return n, end + 1, api.OK
}

// T7: any bytes; a list of up to five of those that matter, and longer ones that are drawn.
func TestGetOfAnyBytes(t *testing.T) {
	check := func(b []byte, at int) {
		t.Helper()
		n, to, e := getByWords(b, at)
		wantGet(t, b, at, n, to, e)
	}
	matter := []byte{0, 1, 2, 0x7f, 0x80, 0x81, 0xff}
	lists := [][]byte{{}}
	for i := 0; i < len(lists); i++ {
		for at := -1; at <= len(lists[i])+1; at++ {
			check(lists[i], at)
		}
		if len(lists[i]) < 5 {
			for _, c := range matter {
				lists = append(lists, append(bytes.Clone(lists[i]), c))
			}
		}
	}
	drawn(3, 20000, func(r *rand.Rand) {
		b := make([]byte, r.Intn(14))
		for i := range b {
			b[i] = matter[r.Intn(len(matter))] | byte(r.Intn(2)*0x80)
			if r.Intn(8) > 0 {
				b[i] |= 0x80
			}
		}
		check(b, r.Intn(len(b)+3)-1)
	})
}

// In one way: if bytes are read as a number, they are the bytes that Put lays of it.
func TestOneWay(t *testing.T) {
	drawn(4, 20000, func(r *rand.Rand) {
		b := make([]byte, 1+r.Intn(12))
		r.Read(b)
		for i := range r.Intn(len(b)) {
			b[i] |= 0x80
		}
		n, to, e := num.Get(b, 0)
		if e == api.OK && !bytes.Equal(num.Put(n), b[:to]) {
			t.Errorf("Get(% x) is %d, whose bytes are % x", b, n, num.Put(n))
		}
	})
}

func TestZig(t *testing.T) {
	for _, c := range []struct {
		n    int
		want uint64
	}{
		{0, 0}, {-1, 1}, {1, 2}, {-2, 3}, {2, 4}, {-3, 5},
		{api.MaxTime, 2 * api.MaxTime},
		{-api.MaxTime, 2*api.MaxTime - 1},
		{math.MaxInt, math.MaxUint64 - 1},
		{math.MinInt + 1, math.MaxUint64 - 2},
		{math.MinInt, math.MaxUint64},
	} {
		if got := num.Zig(c.n); got != c.want {
			t.Errorf("Zig(%d): %d; want %d", c.n, got, c.want)
		}
		if got := num.Zag(c.want); got != c.n {
			t.Errorf("Zag(%d): %d; want %d", c.want, got, c.n)
		}
	}
}

func TestZigThereAndBack(t *testing.T) {
	check := func(n uint64) {
		if got := num.Zig(num.Zag(n)); got != n {
			t.Errorf("Zig(Zag(%d)): %d", n, got)
		}
		if got := num.Zag(num.Zig(int(n))); got != int(n) {
			t.Errorf("Zag(Zig(%d)): %d", int(n), got)
		}
	}
	for _, n := range edges() {
		check(n)
	}
	drawn(5, 5000, func(r *rand.Rand) { check(r.Uint64() >> r.Intn(64)) })
}

func TestPutText(t *testing.T) {
	long := strings.Repeat("x", 300)
	for _, c := range []struct{ s, want string }{
		{"", "\x00"},
		{"ab", "\x02ab"},
		{"\x00\xff\x80", "\x03\x00\xff\x80"},
		{"é", "\x02\xc3\xa9"},
		{long[:127], "\x7f" + long[:127]},
		{long[:128], "\x80\x01" + long[:128]},
		{long, "\xac\x02" + long},
	} {
		if got := num.PutText(c.s); string(got) != c.want {
			t.Errorf("PutText(%q): % x; want % x", c.s, got, c.want)
		}
	}
}

func TestTextThereAndBack(t *testing.T) {
	for _, size := range []int{0, 1, 2, 60, 127, 128, 200, 16383, 16384, 70000} {
		s := strings.Repeat("\x80\x00z", size)[:size]
		p := num.PutText(s)
		b := []byte("\xff\xff" + string(p) + "tail")
		wantText(t, p, 0, size, s, len(p), api.OK)
		wantText(t, b, 2, size, s, 2+len(p), api.OK)
		wantText(t, b, 2, math.MaxInt, s, 2+len(p), api.OK)
	}
}

func TestGetTextMost(t *testing.T) {
	b := []byte("\x03abcd")
	wantText(t, b, 0, 3, "abc", 4, api.OK)
	wantText(t, b, 0, 4, "abc", 4, api.OK)
	wantText(t, b, 0, 2, "", 0, api.ErrLong)
	wantText(t, b, 0, 0, "", 0, api.ErrLong)
	wantText(t, []byte{0}, 0, 0, "", 1, api.OK)
	for _, most := range []int{-1, -3, math.MinInt} {
		wantText(t, b, 0, most, "", 0, api.ErrLong)
		wantText(t, []byte{0}, 0, most, "", 0, api.ErrLong)
	}
}

func TestGetTextShort(t *testing.T) {
	b := []byte("\x03abc")
	wantText(t, b[:3], 0, 3, "", 0, api.ErrShort)
	wantText(t, b[:1], 0, 3, "", 0, api.ErrShort)
	wantText(t, b, 4, 3, "", 0, api.ErrShort)
	wantText(t, []byte("\x00\x02a"), 1, 2, "", 0, api.ErrShort)
	wantText(t, nil, 0, 3, "", 0, api.ErrShort)
	wantText(t, num.Put(math.MaxInt), 0, math.MaxInt, "", 0, api.ErrShort)
}

// R1: Get's error comes first, then ErrLong, then ErrShort.
func TestGetTextFirstError(t *testing.T) {
	b := []byte("\x03abc")
	for _, at := range []int{-1, 5, math.MinInt, math.MaxInt} {
		wantText(t, b, at, -1, "", 0, api.ErrArg)
	}
	wantText(t, []byte{0x83}, 0, -1, "", 0, api.ErrShort)
	wantText(t, []byte{0x83, 0}, 0, -1, "", 0, api.ErrForm)
	wantText(t, bytes.Repeat([]byte{0xff}, 10), 0, 2, "", 0, api.ErrForm)
	wantText(t, b[:2], 0, 2, "", 0, api.ErrLong)
	wantText(t, num.Put(1<<63), 0, math.MaxInt, "", 0, api.ErrLong)
	wantText(t, num.Put(math.MaxUint64), 0, math.MaxInt, "", 0, api.ErrLong)
	wantText(t, num.Put(math.MaxUint64), 0, -1, "", 0, api.ErrLong)
}

// T7, for texts: the words of the chapter, over bytes that are drawn.
func TestGetTextOfAnyBytes(t *testing.T) {
	drawn(6, 20000, func(r *rand.Rand) {
		b := make([]byte, r.Intn(12))
		r.Read(b)
		for i := range b {
			if r.Intn(3) > 0 {
				b[i] %= 8
			}
		}
		at, most := r.Intn(len(b)+3)-1, r.Intn(10)-1
		n, from, e := getByWords(b, at)
		switch {
		case e != api.OK:
			wantText(t, b, at, most, "", 0, e)
		case most < 0 || n > uint64(most):
			wantText(t, b, at, most, "", 0, api.ErrLong)
		case n > uint64(len(b)-from):
			wantText(t, b, at, most, "", 0, api.ErrShort)
		default:
			to := from + int(n)
			wantText(t, b, at, most, string(b[from:to]), to, api.OK)
		}
	})
}

// R2: what lies behind a list's length is not read.
func TestBehindTheLength(t *testing.T) {
	b := []byte("\xac\x02\x03abc")
	wantGet(t, b[:1], 0, 0, 0, api.ErrShort)
	wantGet(t, b[:1], 2, 0, 0, api.ErrArg)
	wantText(t, b[:5], 2, 3, "", 0, api.ErrShort)
	wantText(t, b[:2], 2, 3, "", 0, api.ErrShort)
}

// R2: what is handed in is not changed, what comes out is new memory.
func TestNewMemory(t *testing.T) {
	b := []byte("\x03abc")
	s, _, _ := num.GetText(b, 0, 3)
	num.Get(b, 0)
	if string(b) != "\x03abc" {
		t.Errorf("what was handed in is % x", b)
	}
	copy(b, "\x03xyz")
	if s != "abc" {
		t.Errorf("the text goes with the bytes: %q", s)
	}
	for _, call := range []func() []byte{
		func() []byte { return num.Put(300) },
		func() []byte { return num.PutText("ab") },
	} {
		one := call()
		want := string(one)
		whole := one[:cap(one)]
		two := call()
		for i := range whole {
			whole[i] = 0xee
		}
		if string(two) != want || string(call()) != want {
			t.Errorf("two answers share memory: % x; want % x", two, want)
		}
	}
}
