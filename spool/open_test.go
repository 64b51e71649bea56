package spool_test

import (
	"math"
	"math/rand"
	"slices"
	"strings"
	"testing"

	"telemeter/api"
	"telemeter/disk"
	"telemeter/spool"
)

func segments() (right, wrong []int) {
	return []int{1, 2, 100, 1<<20 - 1, 1 << 20},
		[]int{math.MinInt, -1 << 32, -100, -1, 0, 1<<20 + 1, 1<<20 + 2, 1 << 21, 1 << 32, 1<<32 + 1, math.MaxInt}
}

func mosts() (right, wrong []int) {
	return []int{1, 2, 500, 999, 1000},
		[]int{math.MinInt, -1 << 32, -1000, -1, 0, 1001, 1002, 2000, 4096, 1 << 32, 1<<32 + 1, math.MaxInt}
}

// Each bound by itself makes it nil, whatever the others are.
func TestOpenWrong(t *testing.T) {
	segmentRight, segmentWrong := segments()
	mostRight, mostWrong := mosts()
	wantNil := func(d *disk.Disk, segment, most int) {
		t.Helper()
		if spool.Open(d, segment, most) != nil {
			t.Errorf("Open(%t, %d, %d) is there", d != nil, segment, most)
		}
	}
	d := of(t, file{3, batch(0, "a")})
	for _, segment := range append(segmentRight, segmentWrong...) {
		for _, most := range append(mostRight, mostWrong...) {
			wantNil(nil, segment, most)
			if slices.Contains(segmentWrong, segment) || slices.Contains(mostWrong, most) {
				wantNil(d, segment, most)
				wantNil(disk.New(), segment, most)
			}
		}
	}
	wantFile(t, d, 3, batch(0, "a"), len(batch(0, "a")))
}

// Of a disk without files there is nothing, and it stays so.
func TestOpenOfNothing(t *testing.T) {
	segmentRight, _ := segments()
	mostRight, _ := mosts()
	for _, segment := range segmentRight {
		for _, most := range mostRight {
			d := disk.New()
			s := open(t, d, segment, most)
			for range 2 {
				want(t, s, "", 0, 0)
				wantHas(t, s, false, math.MinInt, -1, 0, 1, greatest, math.MaxInt)
				wantSegments(t, s)
				for _, no := range []int{math.MinInt, -1, 0, 1, greatest, math.MaxInt} {
					wantAck(t, s, no, api.ErrNone)
				}
				s.Sync()
			}
			if len(d.Files()) != 0 {
				t.Errorf("files came to be: %v", d.Files())
			}
		}
	}
}

// All records of all files are read, file by file as their numbers rise, whatever they were written by.
func TestOpenOfRecords(t *testing.T) {
	for _, c := range []struct {
		name  string
		files []file
		ready string
		there int
		next  int
	}{
		{"one batch", []file{{0, batch(0, "a")}}, "0:a ", 1, 1},
		{"one of nothing", []file{{0, batch(0, "")}}, "0: ", 1, 1},
		{"no file 0", []file{{7, batch(0, "a")}}, "0:a ", 1, 1},
		{"no beginning number 0", []file{{0, batch(5, "a")}}, "5:a ", 1, 6},
		{"three in one", []file{{0, batch(0, "a") + batch(1, "b") + batch(2, "c")}}, "0:a 1:b 2:c ", 3, 3},
		{"numbers that fall", []file{{0, batch(9, "a") + batch(4, "b")}}, "4:b 9:a ", 2, 10},
		{"numbers as numbers", []file{{0, batch(10, "a") + batch(9, "b") + batch(100, "c")}}, "9:b 10:a 100:c ", 3, 101},
		{"numbers of more bytes", []file{{0, batch(127, "a") + batch(128, "b") + batch(16383, "c") + batch(16384, "d") + batch(1<<32, "e")}}, "127:a 128:b 16383:c 16384:d 4294967296:e ", 5, 1<<32 + 1},
		{"files in order", []file{{10, batch(0, "ten")}, {9, batch(0, "nine")}, {100, batch(1, "b")}}, "0:ten 1:b ", 2, 2},
		{"the last counts", []file{{0, batch(0, "a") + batch(0, "b")}}, "0:b ", 1, 1},
		{"the last counts, shorter", []file{{0, batch(0, "long") + batch(1, "x") + batch(0, "")}}, "0: 1:x ", 2, 2},
		{"the last counts, files", []file{{0, batch(0, "a")}, {1, batch(0, "b")}, {2, batch(0, "c")}}, "0:c ", 1, 1},
		{"done", []file{{0, batch(0, "a") + done(0)}}, "", 0, 1},
		{"done in another file", []file{{0, batch(0, "a")}, {1, done(0)}}, "", 0, 1},
		{"done ahead", []file{{0, done(0) + batch(0, "a")}}, "0:a ", 1, 1},
		{"done in a file ahead", []file{{1, batch(0, "a")}, {0, done(0)}}, "0:a ", 1, 1},
		{"done between", []file{{0, batch(0, "a") + done(0) + batch(0, "b")}}, "0:b ", 1, 1},
		{"done behind both", []file{{0, batch(0, "a") + batch(0, "b") + done(0)}}, "", 0, 1},
		{"done ahead and behind", []file{{0, done(0) + batch(0, "a") + done(0)}}, "", 0, 1},
		{"done twice", []file{{0, batch(0, "a") + done(0) + done(0)}}, "", 0, 1},
		{"another is done", []file{{0, batch(0, "a") + batch(1, "b") + done(1)}}, "0:a ", 1, 2},
		{"done alone", []file{{0, done(8)}}, "", 0, 9},
		{"beginning alone", []file{{0, beginning(8)}}, "", 0, 8},
		{"beginning 0 alone", []file{{0, beginning(0)}}, "", 0, 0},
		{"beginnings", []file{{0, beginning(8) + beginning(3)}, {1, beginning(5)}}, "", 0, 8},
		{"a beginning of a batch's number", []file{{0, batch(8, "a") + beginning(8)}}, "8:a ", 1, 9},
		{"a beginning of one more", []file{{0, batch(8, "a") + beginning(9)}}, "8:a ", 1, 9},
		{"a beginning of two more", []file{{0, batch(8, "a") + beginning(10)}}, "8:a ", 1, 10},
		{"a beginning of less", []file{{0, beginning(2) + batch(8, "a")}}, "8:a ", 1, 9},
		{"a beginning takes nothing away", []file{{0, batch(1, "a")}, {1, beginning(1)}}, "1:a ", 1, 2},
		{"done behind the greatest", []file{{0, batch(3, "a") + done(5) + beginning(4)}}, "3:a ", 1, 6},
		{"others", []file{{0, batch(3, "a") + done(5)}, {1, batch(4, "b")}}, "3:a 4:b ", 2, 6},
		{"files of nothing", []file{{0, ""}, {3, batch(1, "a")}, {4, ""}}, "1:a ", 1, 2},
		{"the greatest number", []file{{0, batch(greatest-1, "a")}}, "1099511627775:a ", 1, greatest},
		{"the greatest number done", []file{{0, batch(greatest-1, "a") + done(greatest-1)}}, "", 0, greatest},
		{"the greatest beginning", []file{{0, beginning(greatest - 1)}}, "", 0, greatest - 1},
		{"files of great numbers", []file{{greatest, batch(1, "c")}, {greatest - 1, batch(1, "b") + batch(2, "d")}, {1, batch(1, "a")}}, "1:c 2:d ", 2, 3},
		{"files of numbers of 32 digits", []file{{1 << 32, batch(1, "c")}, {1<<32 - 1, batch(1, "b")}, {1 << 31, batch(1, "a")}}, "1:c ", 1, 2},
	} {
		d := of(t, c.files...)
		before := d.Copy()
		s := open(t, d, 10, 3)
		var numbers []int
		for _, f := range c.files {
			numbers = append(numbers, f.no)
		}
		slices.Sort(numbers)
		for range 2 {
			want(t, s, c.ready, c.there, c.next)
			wantSegments(t, s, numbers...)
			wantAlike(t, d, before)
		}
		newPair(t, d, 10, 3)
		if t.Failed() {
			t.Fatal(c.name)
		}
	}
}

// bad is what is no record, or no frame.
func bad() map[string]string {
	return map[string]string{
		"any bytes":                       "any bytes",
		"noughts":                         "\x00\x00\x00\x00",
		"a byte":                          "\x00",
		"a byte that goes on":             "\x80",
		"bytes that go on":                strings.Repeat("\xff", 30),
		"a frame of nothing":              framed(""),
		"a kind 0":                        rec(0, 7, ""),
		"a kind 0, with data":             rec(0, 7, "a"),
		"a kind 4":                        rec(4, 7, ""),
		"a kind 4, with data":             rec(4, 7, "a"),
		"a kind 129":                      rec(129, 7, "a"),
		"a kind 130":                      rec(130, 7, ""),
		"a kind 255":                      rec(255, 7, ""),
		"a text as a kind":                rec('1', 7, ""),
		"no number of a batch":            framed("\x01"),
		"no number of a done one":         framed("\x02"),
		"no number of a beginning":        framed("\x03"),
		"a number that is cut short":      framed("\x01\x80"),
		"one of more bytes":               framed("\x02\xff\xff\xff"),
		"one of a beginning":              framed("\x03\x87"),
		"a number of a byte too many":     framed("\x01\x87\x00"),
		"the same, done":                  framed("\x02\x80\x00"),
		"the same, a beginning":           framed("\x03\x88\x80\x00"),
		"a number of eleven bytes":        framed("\x01\x80\x80\x80\x80\x80\x80\x80\x80\x80\x80\x01"),
		"a number above 64 digits":        framed("\x01\xff\xff\xff\xff\xff\xff\xff\xff\xff\x02"),
		"a batch of 2^40":                 batch(greatest, "a"),
		"a batch of 2^40, and no data":    batch(greatest, ""),
		"a done one of 2^40":              done(greatest),
		"a beginning of 2^40":             beginning(greatest),
		"a batch of 2^40 and 1":           batch(greatest+1, "a"),
		"a batch of 2^41":                 batch(1<<41, "a"),
		"a batch of 2^40 and 7":           batch(greatest+7, "a"),
		"a batch of 2^63":                 batch(1<<63, "a"),
		"a batch of 2^63 and 7":           batch(1<<63+7, "a"),
		"a beginning of 2^63 - 1":         beginning(math.MaxInt64),
		"a batch of 2^64 - 1":             batch(math.MaxUint64, "a"),
		"a done one of 2^64 - 1":          done(math.MaxUint64),
		"a beginning of 2^64 - 1":         beginning(math.MaxUint64),
		"bytes behind a done one":         rec(isDone, 7, "a"),
		"a nought behind a done one":      rec(isDone, 7, "\x00"),
		"bytes behind a beginning":        rec(begins, 9, "ab"),
		"a nought behind a beginning":     rec(begins, 9, "\x00"),
		"a frame within a done one":       rec(isDone, 7, done(7)),
		"a frame that is too long":        framed("\x01\x07" + strings.Repeat("x", 4095)),
		"a frame of 2^20 bytes":           framed("\x01\x07" + strings.Repeat("x", 1<<20)),
		"a sum that is turned round":      "\x03\x00\x00\x00\x00\x01\x07a",
		"a length that is a byte longer":  "\x83\x00" + framed("\x01\x07a")[1:],
		"a length above all that follows": "\x7f" + framed("\x01\x07a")[1:],
		"half a batch":                    batch(7, "abcdef")[:8],
		"a nought ahead of a batch":       "\x00" + batch(7, "a"),
		"a line's end ahead of a batch":   "\n" + batch(7, "a"),
	}
}

// What is no record ends its file, as if nothing stood behind it; the next file is read all the same.
func TestOpenOfBad(t *testing.T) {
	for name, b := range bad() {
		for _, behind := range []string{"", batch(6, "f") + done(0) + done(3) + beginning(90)} {
			wantEnds(t, name, b, behind)
		}
	}
}

// wantEnds has a file that ends with what is no record: alone, behind records, ahead of a file, and between two.
func wantEnds(t *testing.T, name, b, behind string) {
	t.Helper()
	for _, c := range []struct {
		files []file
		ready string
		next  int
	}{
		{[]file{{5, b + behind}}, "", 0},
		{[]file{{5, batch(0, "a") + b + behind}}, "0:a ", 1},
		{[]file{{5, batch(0, "a") + done(0) + b + behind}}, "", 1},
		{[]file{{5, beginning(4) + batch(0, "a") + b + behind}}, "0:a ", 4},
		{[]file{{5, b + behind}, {6, batch(3, "c")}}, "3:c ", 4},
		{[]file{{4, batch(2, "b")}, {5, batch(0, "a") + b + behind}, {6, batch(3, "c") + done(2)}}, "0:a 3:c ", 4},
		{[]file{{4, b + behind}, {5, b + behind}, {6, batch(3, "c") + b + behind}, {7, batch(4, "d")}}, "3:c 4:d ", 5},
	} {
		d := of(t, c.files...)
		before := d.Copy()
		s := open(t, d, 10, 3)
		want(t, s, c.ready, strings.Count(c.ready, ":"), c.next)
		wantSegments(t, s, before.Files()...)
		wantAlike(t, d, before)
		newPair(t, d, 10, 3)
		if t.Failed() {
			t.Fatalf("%s, with %q behind it", name, behind)
		}
	}
}

// Half a record, cut at each place, is none: nor is one that is bent in one byte.
func TestOpenOfHalfAndBent(t *testing.T) {
	for _, b := range []string{batch(7, "abc"), batch(7, ""), batch(300, strings.Repeat("x", 200)), done(7), beginning(7), beginning(greatest - 1)} {
		for n := 1; n < len(b); n++ {
			wantEnds(t, "half a record", b[:n], "")
		}
		for at := range len(b) {
			for bent := range 256 {
				if byte(bent) == b[at] || bent%7 != 0 && at > 5 && len(b) > 20 {
					continue
				}
				bytes := []byte(b)
				bytes[at] = byte(bent)
				d := of(t, file{0, string(bytes)})
				want(t, open(t, d, 10, 3), "", 0, 0)
				newPair(t, d, 10, 3)
			}
		}
		if t.Failed() {
			t.Fatalf("%q", short(b))
		}
	}
}

// A batch in a file may be as long as a frame lets it be, though Append takes less.
func TestOpenOfLongBatches(t *testing.T) {
	for _, n := range []int{3999, 4000, 4001, 4094} {
		data := strings.Repeat("x", n)
		d := of(t, file{0, batch(7, data) + batch(8, "b")})
		wantReady(t, open(t, d, 10, 3), api.Batch{Seq: 7, Data: []byte(data)}, api.Batch{Seq: 8, Data: []byte("b")})
	}
	d := of(t, file{0, batch(7, strings.Repeat("x", 4095)) + batch(8, "b")}, file{1, batch(9, "c")})
	want(t, open(t, d, 10, 3), "9:c ", 1, 10)
}

// What is not sure on the disk is read as what is.
func TestOpenOfUnsure(t *testing.T) {
	d := disk.New()
	d.Write(0, []byte(batch(0, "a")+batch(1, "b")))
	d.Write(1, []byte(done(0)))
	s := open(t, d, 100, 3)
	want(t, s, "1:b ", 1, 2)
	wantFile(t, d, 0, batch(0, "a")+batch(1, "b"), 0)
	wantFile(t, d, 1, done(0), 0)
	wantAck(t, s, 1, api.OK)
	want(t, s, "", 0, 2)
}

// What a disk has is there, also if it is more than most: then it is full till there are less.
func TestOpenOfMore(t *testing.T) {
	for _, most := range []int{1, 2, 3, 4} {
		s := open(t, of(t, file{0, batch(0, "a") + batch(1, "b") + batch(2, "c")}), 100, most)
		want(t, s, "0:a 1:b 2:c ", 3, 3)
		if most == 4 {
			wantAppend(t, s, "d", 3, api.OK)
			continue
		}
		for no := range 4 - most {
			wantAppend(t, s, "d", 0, api.ErrFull)
			wantAck(t, s, no, api.OK)
		}
		wantAppend(t, s, "d", 3, api.OK)
		wantAppend(t, s, "e", 0, api.ErrFull)
	}
	b := ""
	for no := range 3000 {
		b += batch(uint64(no), "x")
	}
	s := open(t, of(t, file{0, b}), 100, 1000)
	if s.Len() != 3000 || s.Next() != 3000 || len(s.Ready()) != 3000 {
		t.Errorf("of 3000 batches %d are there, %d are ready, and the next is %d", s.Len(), len(s.Ready()), s.Next())
	}
	wantAppend(t, s, "d", 0, api.ErrFull)
}

// What is written next begins the file behind the greatest.
func TestFileBehind(t *testing.T) {
	for _, c := range []struct {
		files []file
		want  []int
		begin int
	}{
		{nil, []int{0}, 0},
		{[]file{{0, "x"}}, []int{0, 1}, 1},
		{[]file{{7, batch(3, "a")}}, []int{7, 8}, 8},
		{[]file{{9, ""}, {100, ""}, {10, ""}}, []int{9, 10, 100, 101}, 101},
		{[]file{{1 << 32, ""}}, []int{1 << 32, 1<<32 + 1}, 1<<32 + 1},
		{[]file{{greatest - 2, ""}, {0, ""}}, []int{0, greatest - 2, greatest - 1}, greatest - 1},
		{[]file{{greatest - 1, ""}}, []int{greatest - 1, greatest}, greatest},
	} {
		for _, segment := range []int{1, 1 << 20} {
			d := of(t, c.files...)
			s := open(t, d, segment, 3)
			next := s.Next()
			wantAppend(t, s, "new", next, api.OK)
			wantSegments(t, s, c.want...)
			wantFile(t, d, c.begin, beginning(uint64(next))+batch(uint64(next), "new"), 0)
			for _, f := range c.files {
				wantFile(t, d, f.no, f.bytes, len(f.bytes))
			}
		}
	}
}

// Behind file 2^40 the disk takes none: what is written is in the spool alone.
func TestFileBehindTheGreatest(t *testing.T) {
	p := newPair(t, of(t, file{greatest, batch(3, "a")}), 10, 5)
	for _, data := range []string{"b", "c", "d"} {
		if no, e := p.s.Append([]byte(data)); e != api.OK || !p.s.Has(no) {
			t.Errorf("Append(%s): %d, %d", data, no, e)
		}
	}
	p.s.Sync()
	want(t, p.s, "3:a 4:b 5:c 6:d ", 4, 7)
	wantAck(t, p.s, 3, api.OK)
	wantAck(t, p.s, 4, api.OK)
	want(t, p.s, "5:c 6:d ", 2, 7)
	wantSegments(t, p.s, greatest)
	p.s.Sync()
	wantFile(t, p.d, greatest, batch(3, "a"), len(batch(3, "a")))
	want(t, open(t, p.d, 10, 5), "3:a ", 1, 4)
}

// The greatest number that may be is told, and is there when the disk is opened again; behind it none is a record.
func TestGreatestNumbers(t *testing.T) {
	p := newPair(t, of(t, file{0, beginning(greatest - 2)}), 1000, 5)
	for i, no := range []int{greatest - 2, greatest - 1} {
		if got := p.append(t, "x"); got != no {
			t.Errorf("Append: %d; want %d", got, no)
		}
		p.sync(t)
		p.again(t)
		if p.s.Len() != i+1 || p.s.Next() != no+1 {
			t.Errorf("opened again: %d, next %d; want %d, %d", p.s.Len(), p.s.Next(), i+1, no+1)
		}
	}
	if e := p.ack(t, greatest-2); e != api.OK {
		t.Errorf("Ack: %d", e)
	}
	if e := p.ack(t, greatest-1); e != api.OK {
		t.Errorf("Ack: %d", e)
	}
	wantAppend(t, p.s, "y", greatest, api.OK)
	want(t, p.s, "", 1, greatest+1)
	p.s.Sync()
	want(t, p.s, "1099511627776:y ", 1, greatest+1)
	wantHas(t, p.s, true, greatest)
	wantHas(t, p.s, false, greatest-1, greatest+1)
}

// Nothing is written by Open, nor by what only looks: not in files that a spool wrote, nor in any others.
func TestOpenWritesNothing(t *testing.T) {
	drawn(t, 1, 200, func(r *rand.Rand) {
		d := disk.New()
		for range r.Intn(5) {
			no := r.Intn(6)
			d.Write(no, []byte(anyFile(r)))
			if r.Intn(2) == 0 {
				d.Sync(no)
				d.Write(no, []byte(anyFile(r)))
			}
		}
		before := d.Copy()
		for range 3 {
			s := open(t, d, 1+r.Intn(50), 1+r.Intn(5))
			s.Ready()
			s.Len()
			s.Next()
			s.Segments()
			wantAck(t, s, s.Next(), api.ErrNone)
			wantHas(t, s, false, s.Next())
			wantAlike(t, d, before)
		}
	})
}
