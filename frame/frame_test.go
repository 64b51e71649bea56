package frame_test

import (
	"bytes"
	"encoding/binary"
	"hash/crc32"
	"math"
	"math/rand"
	"slices"
	"testing"

	"telemeter/api"
	"telemeter/frame"
)

func drawn(seed int64, times int, f func(r *rand.Rand)) {
	r := rand.New(rand.NewSource(seed))
	for range times {
		f(r)
	}
}

// some bytes, of all kinds, the same ones for the same size.
func some(size int) []byte {
	b := make([]byte, size)
	rand.New(rand.NewSource(int64(size))).Read(b)
	return b
}

// sizes: what the document names, and where the length needs a byte more.
func sizes() []int {
	return []int{0, 1, 2, 3, 4, 5, 126, 127, 128, 129, 300, api.MaxFrame - 1, api.MaxFrame}
}

// byWords is a frame as the chapter words it, with the library's number and check, and no bound.
func byWords(b []byte) []byte {
	f := binary.AppendUvarint(nil, uint64(len(b)))
	f = binary.BigEndian.AppendUint32(f, crc32.ChecksumIEEE(b))
	return append(f, b...)
}

// takeByWords is Take as the chapter words it.
func takeByWords(b []byte, at int) ([]byte, int, api.Errno) {
	if at < 0 || at > len(b) {
		return nil, 0, api.ErrArg
	}
	n, size := binary.Uvarint(b[at:])
	switch {
	case size == 0 && len(b)-at < 10:
		return nil, 0, api.ErrShort
	case size <= 0 || !bytes.Equal(binary.AppendUvarint(nil, n), b[at:at+size]):
		return nil, 0, api.ErrForm
	case n > 4096:
		return nil, 0, api.ErrLong
	case uint64(len(b)-at-size) < 4+n:
		return nil, 0, api.ErrShort
	}
	sum, rest := b[at+size:at+size+4], b[at+size+4:]
	if binary.BigEndian.Uint32(sum) != crc32.ChecksumIEEE(rest[:n]) {
		return nil, 0, api.ErrSum
	}
	return rest[:n], at + size + 4 + int(n), api.OK
}

// scanByWords is Scan as the chapter words it.
func scanByWords(b []byte) (all [][]byte, at int, e api.Errno) {
	for at < len(b) && e == api.OK {
		var one []byte
		var behind int
		if one, behind, e = takeByWords(b, at); e == api.OK {
			all, at = append(all, one), behind
		}
	}
	return all, at, e
}

func wantTake(t *testing.T, b []byte, at int, want []byte, to int, e api.Errno) {
	t.Helper()
	got, gotTo, gotE := frame.Take(b, at)
	if !bytes.Equal(got, want) || gotTo != to || gotE != e {
		t.Errorf("Take(% x, %d): % x, %d, %d; want % x, %d, %d", b, at, got, gotTo, gotE, want, to, e)
	}
}

func wantScan(t *testing.T, b []byte, want [][]byte, to int, e api.Errno) {
	t.Helper()
	got, gotTo, gotE := frame.Scan(b)
	if !slices.EqualFunc(got, want, bytes.Equal) || gotTo != to || gotE != e {
		t.Errorf("Scan(% x): % x, %d, %d; want % x, %d, %d", b, got, gotTo, gotE, want, to, e)
	}
}

func framed(t *testing.T, b []byte) []byte {
	t.Helper()
	f, e := frame.Frame(b)
	if e != api.OK {
		t.Fatalf("Frame of %d bytes: %d", len(b), e)
	}
	return f
}

func TestSum(t *testing.T) {
	for _, c := range []struct {
		b    string
		want uint32
	}{
		{"123456789", 0xcbf43926},
		{"", 0},
		{"\x00", 0xd202ef8d},
		{"\xff", 0xff000000},
		{"a", 0xe8b7be43},
		{"\x00\x00\x00\x00", 0x2144df1c},
		{"\xff\xff\xff\xff", 0xffffffff},
		{"\x9d\x0a\xd9\x6d", 0},
	} {
		if got := frame.Sum([]byte(c.b)); got != c.want {
			t.Errorf("Sum(% x): %08x; want %08x", c.b, got, c.want)
		}
	}
	if frame.Sum(nil) != 0 { // R6
		t.Errorf("Sum(nil): %08x; want 0", frame.Sum(nil))
	}
}

// Sum has no bound of its own: longer lists than a frame holds are summed too.
func TestSumAgainstLibrary(t *testing.T) {
	check := func(b []byte) {
		t.Helper()
		if got, want := frame.Sum(b), crc32.ChecksumIEEE(b); got != want {
			t.Errorf("Sum of %d bytes: %08x; want %08x", len(b), got, want)
		}
	}
	for c := range 0x100 {
		check([]byte{byte(c)})
		check([]byte{byte(c), 0})
		check([]byte{0, byte(c)})
	}
	for _, size := range append(sizes(), api.MaxFrame+1, 100000) {
		check(some(size))
	}
	drawn(1, 1000, func(r *rand.Rand) { check(some(r.Intn(500))) })
}

func TestFrame(t *testing.T) {
	for _, c := range []struct{ b, want string }{
		{"", "\x00\x00\x00\x00\x00"},
		{"a", "\x01\xe8\xb7\xbe\x43a"},
		{"123456789", "\x09\xcb\xf4\x39\x26123456789"},
		{"\x9d\x0a\xd9\x6d", "\x04\x00\x00\x00\x00\x9d\x0a\xd9\x6d"},
	} {
		if got := framed(t, []byte(c.b)); string(got) != c.want {
			t.Errorf("Frame(% x): % x; want % x", c.b, got, c.want)
		}
	}
	if got := framed(t, nil); !bytes.Equal(got, make([]byte, 5)) { // R6
		t.Errorf("Frame(nil): % x", got)
	}
}

func TestFrameAgainstLibrary(t *testing.T) {
	for _, size := range sizes() {
		if got := framed(t, some(size)); !bytes.Equal(got, byWords(some(size))) {
			t.Errorf("Frame of %d bytes: % x", size, got)
		}
	}
	drawn(2, 1000, func(r *rand.Rand) {
		b := some(r.Intn(400))
		if got := framed(t, b); !bytes.Equal(got, byWords(b)) {
			t.Errorf("Frame(% x): % x", b, got)
		}
	})
}

func TestFrameTooLong(t *testing.T) {
	for _, size := range []int{4097, 4098, 8192, 100000} {
		if got, e := frame.Frame(some(size)); len(got) != 0 || e != api.ErrLong {
			t.Errorf("Frame of %d bytes: %d bytes, %d; want none, ErrLong", size, len(got), e)
		}
	}
}

func TestThereAndBack(t *testing.T) {
	check := func(b []byte, ahead, behind string) {
		t.Helper()
		f := framed(t, b)
		wantTake(t, f, 0, b, len(f), api.OK)
		wantTake(t, []byte(ahead+string(f)+behind), len(ahead), b, len(ahead)+len(f), api.OK)
	}
	for _, size := range sizes() {
		for _, side := range []string{"", "\x00", "\x80", "\xff\xff", "\x01\x02\x03\x04\x05\x06\x07"} {
			check(some(size), side, side)
		}
	}
	drawn(3, 1000, func(r *rand.Rand) { check(some(r.Intn(400)), "\x81", "\x01") })
}

func TestTakePlace(t *testing.T) {
	f := framed(t, []byte("abc"))
	wantTake(t, f, 0, []byte("abc"), 8, api.OK)
	wantTake(t, f, len(f), nil, 0, api.ErrShort)
	for _, at := range []int{-1, len(f) + 1, math.MinInt, math.MaxInt} {
		wantTake(t, f, at, nil, 0, api.ErrArg)
	}
	for _, b := range [][]byte{nil, {}} { // R6
		wantTake(t, b, 0, nil, 0, api.ErrShort)
		wantTake(t, b, 1, nil, 0, api.ErrArg)
		wantTake(t, b, -1, nil, 0, api.ErrArg)
	}
}

// A frame that is cut short at each of its bytes.
func TestTakeCutShort(t *testing.T) {
	for _, size := range sizes() {
		f := framed(t, some(size))
		for end := range len(f) {
			wantTake(t, f[:end], 0, nil, 0, api.ErrShort)
		}
		ahead := append([]byte{0xff, 0}, f...)
		for _, end := range []int{2, 3, len(ahead) - 1} {
			wantTake(t, ahead[:end], 2, nil, 0, api.ErrShort)
		}
	}
}

func TestTakeTooLong(t *testing.T) {
	long := byWords(some(4097))
	wantTake(t, long, 0, nil, 0, api.ErrLong)
	wantTake(t, append([]byte{7}, long...), 1, nil, 0, api.ErrLong)
	for _, n := range []uint64{4097, 4098, 1 << 31, 1 << 32, math.MaxInt64, 1 << 63, math.MaxUint64 - 3, math.MaxUint64} {
		wantTake(t, binary.AppendUvarint(nil, n), 0, nil, 0, api.ErrLong)
	}
}

// R1: num.Get's error comes first, then ErrLong, then ErrShort, then ErrSum.
func TestTakeFirstError(t *testing.T) {
	wantTake(t, []byte{0x80}, 2, nil, 0, api.ErrArg)
	wantTake(t, []byte{0x80, 0}, -1, nil, 0, api.ErrArg)
	wantTake(t, []byte{0xff, 0xff, 0xff}, 0, nil, 0, api.ErrShort)
	wantTake(t, []byte{0x80, 0}, 0, nil, 0, api.ErrForm)
	wantTake(t, append([]byte{0x80, 0}, make([]byte, 4)...), 0, nil, 0, api.ErrForm)
	wantTake(t, bytes.Repeat([]byte{0xff}, 10), 0, nil, 0, api.ErrForm)
	wantTake(t, []byte{0x81, 0x20}, 0, nil, 0, api.ErrLong)
	wantTake(t, append([]byte{0x81, 0x20}, make([]byte, 5000)...), 0, nil, 0, api.ErrLong)
	wantTake(t, []byte{0x80, 0x20}, 0, nil, 0, api.ErrShort)
	wantTake(t, []byte{3, 9, 9, 9, 9, 'a', 'b'}, 0, nil, 0, api.ErrShort)
	wantTake(t, []byte{3, 9, 9, 9, 9, 'a', 'b', 'c'}, 0, nil, 0, api.ErrSum)
}

func TestTakeWrongSum(t *testing.T) {
	wantTake(t, []byte{0, 0, 0, 0, 1}, 0, nil, 0, api.ErrSum)
	wantTake(t, []byte{0, 1, 0, 0, 0}, 0, nil, 0, api.ErrSum)
	wantTake(t, []byte("\x01\x43\xbe\xb7\xe8a"), 0, nil, 0, api.ErrSum) // the least significant first
	wantTake(t, []byte("\x01\x17\x48\x41\xbca"), 0, nil, 0, api.ErrSum) // without the turn at the end
}

// Each byte behind the length is another one in turn, in all ways: nothing is taken, ErrSum is told.
func TestTakeOtherByte(t *testing.T) {
	for _, size := range []int{0, 1, 2, 9, 130} {
		f := framed(t, some(size))
		for at := len(f) - size - 4; at < len(f); at++ {
			for other := 1; other < 0x100; other++ {
				g := bytes.Clone(f)
				g[at] ^= byte(other)
				wantTake(t, g, 0, nil, 0, api.ErrSum)
				wantScan(t, g, nil, 0, api.ErrSum)
			}
		}
	}
}

// Each byte of the length is another one: these frames have no beginning that a shorter length would make right.
func TestTakeOtherLength(t *testing.T) {
	for _, size := range []int{0, 1, 2, 9, 127, 128, 130} {
		f := framed(t, some(size))
		for at := range len(f) - size - 4 {
			for other := 1; other < 0x100; other++ {
				g := append(bytes.Clone(f), 1, 2, 3, 4, 5)
				g[at] ^= byte(other)
				_, _, want := takeByWords(g, 0)
				if want == api.OK {
					t.Fatalf("% x is right", g)
				}
				wantTake(t, g, 0, nil, 0, want)
				wantScan(t, g, nil, 0, want)
			}
		}
	}
	full := framed(t, some(api.MaxFrame))
	full[0]++ // one more than a frame may have
	wantTake(t, append(full, 0), 0, nil, 0, api.ErrLong)
}

func TestScan(t *testing.T) {
	var b []byte
	var want [][]byte
	wantScan(t, nil, nil, 0, api.OK)
	wantScan(t, []byte{}, nil, 0, api.OK)
	for _, size := range sizes() {
		b, want = append(b, framed(t, some(size))...), append(want, some(size))
		wantScan(t, b, want, len(b), api.OK)
	}
	wantScan(t, make([]byte, 5), [][]byte{nil}, 5, api.OK)
	wantScan(t, make([]byte, 5*1000), make([][]byte, 1000), 5000, api.OK)
}

// What is behind the last frame: its error, with all that were taken (R1's exception, as the chapter says so).
func TestScanBehind(t *testing.T) {
	one, two := []byte("one"), []byte("the second")
	b := slices.Concat(framed(t, one), framed(t, two))
	for _, c := range []struct {
		behind string
		e      api.Errno
	}{
		{"", api.OK},
		{"\x00", api.ErrShort},
		{"\x00\x00\x00\x00", api.ErrShort},
		{"\x80", api.ErrShort},
		{"\xff\xff\xff\xff\xff\xff\xff\xff\xff", api.ErrShort},
		{"\xff\xff\xff\xff\xff\xff\xff\xff\xff\xff", api.ErrForm},
		{"\x80\x00", api.ErrForm},
		{"\x80\x20", api.ErrShort},
		{"\x81\x20", api.ErrLong},
		{"\x00\x00\x00\x00\x01", api.ErrSum},
		{"\x01\xe8\xb7\xbe\x43b", api.ErrSum},
		{"\x01\xe8\xb7\xbe\x43", api.ErrShort},
	} {
		wantScan(t, []byte(c.behind), nil, 0, c.e)
		wantScan(t, slices.Concat(b, []byte(c.behind)), [][]byte{one, two}, len(b), c.e)
	}
}

// A wrong one among frames: those ahead of it are told, and its place; none behind it.
func TestScanWrongAmong(t *testing.T) {
	parts := [][]byte{some(3), nil, some(200), some(17), some(1)}
	for wrong := range parts {
		for _, c := range []struct {
			frame []byte
			e     api.Errno
		}{
			{[]byte{2, 0, 0, 0, 0, 'x', 'y'}, api.ErrSum},
			{[]byte{0x82, 0, 0, 0, 0, 0}, api.ErrForm},
			{byWords(some(4097)), api.ErrLong},
			{[]byte{0x80, 0x20}, api.ErrShort}, // more than there is behind it
		} {
			var b []byte
			place := 0
			for i, part := range parts {
				if i == wrong {
					place = len(b)
					b = append(b, c.frame...)
				}
				b = append(b, framed(t, part)...)
			}
			wantScan(t, b, parts[:wrong], place, c.e)
		}
	}
}

func TestScanCutShort(t *testing.T) {
	parts := [][]byte{some(2), nil, some(130), some(5)}
	var b []byte
	var ends []int
	for _, part := range parts {
		b = append(b, framed(t, part)...)
		ends = append(ends, len(b))
	}
	for end := range len(b) {
		whole, place, e := 0, 0, api.ErrShort
		for whole < len(ends) && ends[whole] <= end {
			place = ends[whole]
			whole++
		}
		if place == end {
			e = api.OK
		}
		wantScan(t, b[:end], parts[:whole], place, e)
	}
}

// In one way: what Take reads is what Frame lays.
func TestOneWay(t *testing.T) {
	b := slices.Concat(framed(t, some(4)), framed(t, nil), framed(t, some(200)))
	for at := range len(b) {
		if one, to, e := frame.Take(b, at); e == api.OK && !bytes.Equal(framed(t, one), b[at:to]) {
			t.Errorf("Take at %d is % x, whose frame is % x", at, one, framed(t, one))
		}
	}
}

// T7: any bytes at any place, frames that were spoilt among them.
func TestAnyBytes(t *testing.T) {
	check := func(b []byte, at int) {
		t.Helper()
		one, to, e := takeByWords(b, at)
		wantTake(t, b, at, one, to, e)
		all, end, why := scanByWords(b)
		wantScan(t, b, all, end, why)
	}
	drawn(4, 10000, func(r *rand.Rand) {
		b := make([]byte, r.Intn(30))
		r.Read(b)
		for i := range b {
			if r.Intn(2) > 0 {
				b[i] = []byte{0, 1, 0x80, 0xff}[r.Intn(4)]
			}
		}
		check(b, r.Intn(len(b)+3)-1)
	})
	drawn(5, 5000, func(r *rand.Rand) {
		var b []byte
		for range r.Intn(5) {
			b = append(b, byWords(some(r.Intn(20)))...)
		}
		for range r.Intn(2) {
			b = append(b, byte(r.Intn(0x100)))
		}
		if len(b) > 0 && r.Intn(2) > 0 {
			b[r.Intn(len(b))] = byte(r.Intn(0x100))
		}
		check(b, r.Intn(len(b)+3)-1)
	})
}

// R2: what lies behind a list's length is neither read nor written.
func TestBehindTheLength(t *testing.T) {
	f := framed(t, []byte("abc"))
	wantTake(t, f[:7], 0, nil, 0, api.ErrShort)
	wantTake(t, f[:5], 6, nil, 0, api.ErrArg)
	wantScan(t, f[:7], nil, 0, api.ErrShort)
	wantScan(t, f[:0], nil, 0, api.OK)
	b := []byte("abcdefghijklmnop")
	if got := framed(t, b[:1]); string(got) != "\x01\xe8\xb7\xbe\x43a" {
		t.Errorf("Frame of the first: % x", got)
	}
	if frame.Sum(b[:1]) != 0xe8b7be43 || string(b) != "abcdefghijklmnop" {
		t.Errorf("what lies behind the length: %q", b)
	}
}

// R2: what is handed in stays as it was.
func TestHandedInStays(t *testing.T) {
	b := slices.Concat(framed(t, some(40)), framed(t, some(7)), []byte{9})
	was := bytes.Clone(b)
	frame.Sum(b)
	frame.Frame(b)
	for at := -1; at < len(b)+2; at++ {
		frame.Take(b, at)
	}
	frame.Scan(b)
	if !bytes.Equal(b, was) {
		t.Errorf("what was handed in is % x; was % x", b, was)
	}
}

// spoil writes over all of a list's memory, behind its length too.
func spoil(b []byte) {
	whole := b[:cap(b)]
	for i := range whole {
		whole[i] = 0xee
	}
}

// R2: what comes out is new memory: spoilt, it spoils neither what was handed in nor another answer, nor the other way round.
func TestNewMemory(t *testing.T) {
	one, two := []byte("one"), []byte("the second")
	b := slices.Concat(framed(t, one), framed(t, two))
	was := bytes.Clone(b)
	taken, _, _ := frame.Take(b, 0)
	again, _, _ := frame.Take(b, 0)
	all, _, _ := frame.Scan(b)
	spoil(taken)
	spoil(all[0])
	if !bytes.Equal(b, was) || !bytes.Equal(again, one) || !bytes.Equal(all[1], two) {
		t.Errorf("answers share memory: % x, %q, %q", b, again, all[1])
	}
	spoil(b)
	if !bytes.Equal(again, one) || !bytes.Equal(all[1], two) {
		t.Errorf("answers go with what was handed in: %q, %q", again, all[1])
	}
	f, g := framed(t, one), framed(t, one)
	spoil(f)
	if !bytes.Equal(g, byWords([]byte("one"))) || string(one) != "one" {
		t.Errorf("frames share memory: % x, %q", g, one)
	}
	spoil(one)
	if !bytes.Equal(g, byWords([]byte("one"))) {
		t.Errorf("a frame goes with what was handed in: % x", g)
	}
}

// R2: nothing of what was handed in shows behind an answer's length.
func TestNothingBehindAnswers(t *testing.T) {
	b := slices.Concat(framed(t, []byte("one")), bytes.Repeat([]byte{0xee}, 100))
	all, _, _ := frame.Scan(b)
	one, _, _ := frame.Take(b, 0)
	f := framed(t, b[:3])
	for _, l := range [][]byte{one, all[0], f} {
		if slices.Contains(l[:cap(l)][len(l):], 0xee) {
			t.Errorf("behind % x: % x", l, l[:cap(l)])
		}
	}
}
