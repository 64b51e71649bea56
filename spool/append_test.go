package spool_test

import (
	"bytes"
	"strings"
	"testing"

	"telemeter/api"
	"telemeter/disk"
)

// The chapter's example.
func TestExample(t *testing.T) {
	d := disk.New()
	s := open(t, d, 100, 5)
	wantAppend(t, s, "a", 0, api.OK)
	want(t, s, "", 1, 1)
	s.Sync()
	want(t, s, "0:a ", 1, 1)
	wantAck(t, s, 0, api.OK)
	want(t, s, "", 0, 1)
	asItIs, nothing, all := d.Copy(), d.Copy(), d.Copy()
	want(t, open(t, asItIs, 100, 5), "", 0, 1)
	nothing.Crash(0)
	want(t, open(t, nothing, 100, 5), "0:a ", 1, 1)
	all.Crash(uint64(len(done(0))))
	want(t, open(t, all, 100, 5), "", 0, 1)
}

// What stands on the disk, byte by byte.
func TestBytes(t *testing.T) {
	d := disk.New()
	s := open(t, d, 100, 5)
	wantAppend(t, s, "a", 0, api.OK)
	wantAppend(t, s, "", 1, api.OK)
	s.Sync()
	wantAck(t, s, 0, api.OK)
	wantFile(t, d, 0, "\x02\x6a\xf4\x41\x3c\x03\x00"+"\x03\xc4\x36\xe2\xeb\x01\x00a"+"\x02\x2f\xc5\x13\x28\x01\x01"+"\x02\x73\xef\x70\x7d\x02\x00", 22)
	if first := beginning(0) + batch(0, "a"); first != "\x02\x6a\xf4\x41\x3c\x03\x00"+"\x03\xc4\x36\xe2\xeb\x01\x00a" {
		t.Errorf("the tests lay a beginning and a batch as %x", first)
	}
}

// A batch is there when it is appended, but sure only behind a Sync; numbers rise by one.
func TestAppend(t *testing.T) {
	p := newPair(t, disk.New(), 60, 6)
	for i, data := range []string{"a", "", "\x00", "a", strings.Repeat("x", 200), "\xff\xfe"} {
		wantHas(t, p.s, false, i)
		if no := p.append(t, data); no != i {
			t.Errorf("Append: %d; want %d", no, i)
		}
		wantHas(t, p.s, true, i)
		wantHas(t, p.s, false, i+1)
		want(t, p.s, "", i+1, i+1)
	}
	p.sync(t)
	if n := len(p.s.Ready()); n != 6 {
		t.Errorf("%d are ready; want 6", n)
	}
}

func TestAppendOfSizes(t *testing.T) {
	for _, segment := range []int{1, 5000, 1 << 20} {
		for _, n := range []int{0, 1, 2, 116, 117, 118, 127, 128, 129, 3997, 3998, 3999, 4000} {
			d := disk.New()
			p := newPair(t, d, segment, 3)
			data := strings.Repeat("d", n)
			p.append(t, data)
			p.append(t, "behind")
			p.sync(t)
			ready := []api.Batch{{Seq: 0, Data: []byte(data)}, {Seq: 1, Data: []byte("behind")}}
			wantReady(t, p.s, ready...)
			p.again(t)
			wantReady(t, p.s, ready...)
		}
		for _, n := range []int{4001, 4002, 4090, 4096, 4097, 100000} {
			d := disk.New()
			p := newPair(t, d, segment, 3)
			wantAppend(t, p.s, strings.Repeat("d", n), 0, api.ErrLong)
			p.look(t)
			wantSegments(t, p.s)
			p.append(t, "a")
			wantAppend(t, p.s, strings.Repeat("d", n), 0, api.ErrLong)
			p.look(t)
			p.append(t, "b")
			p.sync(t)
			want(t, p.s, "0:a 1:b ", 2, 2)
		}
	}
}

// A batch of the most bytes, and the greatest number, is in a frame.
func TestAppendOfTheMost(t *testing.T) {
	data := bytes.Repeat([]byte("d"), 4000)
	d := of(t, file{0, beginning(greatest - 1)})
	s := open(t, d, 100, 3)
	wantAppend(t, s, string(data), greatest-1, api.OK)
	s.Sync()
	wantReady(t, open(t, d, 100, 3), api.Batch{Seq: greatest - 1, Data: data})
}

// When Len is most there is room for none, whether sure or not; Ack alone makes room.
func TestAppendWhenFull(t *testing.T) {
	for _, most := range []int{1, 2, 3, 999, 1000} {
		d := disk.New()
		s := open(t, d, 1000, most)
		full := func() {
			t.Helper()
			before, ready, next := d.Copy(), told(s.Ready()), s.Next()
			wantAppend(t, s, "no", 0, api.ErrFull)
			wantAppend(t, s, "", 0, api.ErrFull)
			wantAppend(t, s, strings.Repeat("d", 4000), 0, api.ErrFull)
			wantAppend(t, s, strings.Repeat("d", 4001), 0, api.ErrLong)
			want(t, s, ready, most, next)
			wantHas(t, s, false, next)
			wantAlike(t, d, before)
		}
		for i := range most {
			wantAppend(t, s, "d", i, api.OK)
		}
		full()
		wantAck(t, s, most-1, api.ErrNone)
		full()
		s.Sync()
		full()
		wantAck(t, s, most-1, api.OK)
		wantAppend(t, s, "d", most, api.OK)
		full()
		wantAck(t, s, most, api.ErrNone)
		s.Sync()
		wantAck(t, s, most, api.OK)
		d.Crash(0) // what is done is so no more: it is full again
		s = open(t, d, 1000, most)
		full()
		for _, b := range s.Ready() {
			wantAck(t, s, b.Seq, api.OK)
		}
		for i := range most {
			wantAppend(t, s, "d", most+1+i, api.OK)
		}
		full()
	}
}

// Of two errors ErrLong is told first.
func TestAppendErrors(t *testing.T) {
	s := open(t, disk.New(), 100, 1)
	wantAppend(t, s, strings.Repeat("d", 4001), 0, api.ErrLong)
	wantAppend(t, s, "a", 0, api.OK)
	wantAppend(t, s, strings.Repeat("d", 4001), 0, api.ErrLong)
	wantAppend(t, s, strings.Repeat("d", 4000), 0, api.ErrFull)
	want(t, s, "", 1, 1)
}

// What is refused begins no file: the first record that is written does, whichever it is.
func TestRefusedBeginsNothing(t *testing.T) {
	d := of(t, file{4, batch(2, "a")})
	s := open(t, d, 100, 1)
	wantAppend(t, s, "b", 0, api.ErrFull)
	wantAppend(t, s, strings.Repeat("d", 4001), 0, api.ErrLong)
	wantAck(t, s, 1, api.ErrNone)
	wantAck(t, s, 3, api.ErrNone)
	wantSegments(t, s, 4)
	wantAck(t, s, 2, api.OK)
	wantSegments(t, s, 4, 5)
	wantFile(t, d, 5, beginning(3)+done(2), 0)
}

// The last file may have one byte less than segment: it is written to; with so many, or one more, the next one is begun.
func TestSegments(t *testing.T) {
	first := beginning(0) + batch(0, "abc")
	second := batch(1, "defgh")
	for _, c := range []struct {
		segment int
		want    []string
	}{
		{1, []string{first, beginning(1) + second, beginning(2) + done(0)}},
		{len(beginning(0)), []string{first, beginning(1) + second, beginning(2) + done(0)}},
		{len(first) - 1, []string{first, beginning(1) + second, beginning(2) + done(0)}},
		{len(first), []string{first, beginning(1) + second, beginning(2) + done(0)}},
		{len(first) + 1, []string{first + second, beginning(2) + done(0)}},
		{len(first+second) - 1, []string{first + second, beginning(2) + done(0)}},
		{len(first + second), []string{first + second, beginning(2) + done(0)}},
		{len(first+second) + 1, []string{first + second + done(0)}},
		{1 << 20, []string{first + second + done(0)}},
	} {
		for _, from := range []int{0, 9} {
			p := newPair(t, disk.New(), c.segment, 5)
			if from > 0 {
				p = newPair(t, of(t, file{from - 1, "x"}), c.segment, 5)
			}
			p.append(t, "abc")
			p.append(t, "defgh")
			p.sync(t)
			p.ack(t, 0)
			for i, want := range c.want {
				sure := len(want)
				if i == len(c.want)-1 {
					sure -= len(done(0))
					if strings.HasPrefix(want, beginning(2)) {
						sure = 0
					}
				}
				wantFile(t, p.d, from+i, want, sure)
			}
			if files := p.d.Files(); files[len(files)-1] != from+len(c.want)-1 {
				t.Errorf("of segment %d there are %v; want %d from %d on", c.segment, files, len(c.want), from)
			}
		}
	}
}

// A file may be as long as a segment of 2^20 lets it: the next one begins when it has so many.
func TestLongSegment(t *testing.T) {
	for _, segment := range []int{long - 1, long} {
		d := disk.New()
		s := open(t, d, segment, 1000)
		for no := 0; s.Len() < 1000 && len(d.Files()) < 2; no++ {
			wantAppend(t, s, strings.Repeat("d", 4000), no, api.OK)
		}
		wantSegments(t, s, 0, 1)
		b, _ := d.Read(0)
		behind, _ := d.Read(1)
		record := len(behind) - len(beginning(uint64(s.Next()-1)))
		if len(b) < segment || len(b)-record >= segment {
			t.Errorf("the file has %d bytes, the last record %d, by a segment of %d", len(b), record, segment)
		}
	}
}

// The last file is sure ahead of a new one's beginning: this spool's own, and that of the disk, if this spool began none.
func TestLastIsSynced(t *testing.T) {
	d := disk.New()
	s := open(t, d, 20, 5)
	wantAppend(t, s, "0123456789", 0, api.OK)
	first := beginning(0) + batch(0, "0123456789")
	wantFile(t, d, 0, first, 0)
	wantAppend(t, s, "b", 1, api.OK)
	wantFile(t, d, 0, first, len(first))
	wantFile(t, d, 1, beginning(1)+batch(1, "b"), 0)
	want(t, s, "", 2, 2) // sure on the disk, but told to be so behind a Sync alone
	wantAck(t, s, 0, api.ErrNone)
	d.Crash(0)
	want(t, open(t, d, 20, 5), "0:0123456789 ", 1, 1)

	d = disk.New()
	for no := range 3 {
		d.Write(no, []byte(batch(uint64(no), "a")))
	}
	s = open(t, d, 20, 5)
	wantAck(t, s, 0, api.OK)
	for no := range 3 {
		sure := 0
		if no == 2 {
			sure = len(batch(2, "a"))
		}
		wantFile(t, d, no, batch(uint64(no), "a"), sure)
	}
	wantFile(t, d, 3, beginning(3)+done(0), 0)
}

// A beginning has Next's number: of a batch's record that batch's.
func TestBeginnings(t *testing.T) {
	p := newPair(t, of(t, file{0, batch(40, "a") + batch(41, "b") + batch(42, "c")}), 1, 5)
	p.append(t, "d")
	p.ack(t, 41)
	p.append(t, "")
	p.sync(t)
	p.ack(t, 40)
	p.ack(t, 44)
	for i, want := range []string{
		beginning(43) + batch(43, "d"), beginning(44) + done(41), beginning(44) + batch(44, ""), beginning(45) + done(40), beginning(45) + done(44),
	} {
		sure := len(want)
		if i == 4 {
			sure = 0
		}
		wantFile(t, p.d, 1+i, want, sure)
	}
}
