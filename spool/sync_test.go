package spool_test

import (
	"math"
	"testing"

	"telemeter/api"
	"telemeter/disk"
)

// A batch is done once: when it is there, and sure.
func TestAck(t *testing.T) {
	d := disk.New()
	p := newPair(t, d, 100, 5)
	wantAcks := func(want api.Errno, all ...int) {
		t.Helper()
		for _, no := range all {
			before := d.Copy()
			if e := p.ack(t, no); e != want {
				t.Errorf("Ack(%d): %d; want %d", no, e, want)
			}
			if want != api.OK {
				wantAlike(t, d, before)
			}
		}
	}
	wantAcks(api.ErrNone, math.MinInt, -1, 0, 1, greatest, math.MaxInt)
	p.append(t, "a")
	wantAcks(api.ErrNone, math.MinInt, -1, 0, 1, greatest, math.MaxInt)
	p.sync(t)
	p.append(t, "b")
	wantAcks(api.ErrNone, -1, 1, 2, 1<<32, math.MaxInt)
	want(t, p.s, "0:a ", 2, 2)
	wantAcks(api.OK, 0)
	want(t, p.s, "", 1, 2)
	wantHas(t, p.s, false, 0)
	wantHas(t, p.s, true, 1)
	wantAcks(api.ErrNone, 0, 0, 1)
	p.sync(t)
	want(t, p.s, "1:b ", 1, 2)
	wantAcks(api.ErrNone, 0)
	wantAcks(api.OK, 1)
	wantAcks(api.ErrNone, 0, 1, 2)
	want(t, p.s, "", 0, 2)
}

// In whatever order batches are done, those that are not stay, in order.
func TestAckInAnyOrder(t *testing.T) {
	for _, segment := range []int{1, 30, 1000} {
		for _, c := range []struct {
			acks  []int
			ready string
		}{
			{nil, "0:a 1:b 2:c 3:d "},
			{[]int{0}, "1:b 2:c 3:d "}, {[]int{1}, "0:a 2:c 3:d "}, {[]int{3}, "0:a 1:b 2:c "},
			{[]int{1, 0}, "2:c 3:d "}, {[]int{3, 0}, "1:b 2:c "}, {[]int{2, 1}, "0:a 3:d "},
			{[]int{3, 2, 1}, "0:a "}, {[]int{0, 1, 2}, "3:d "}, {[]int{2, 3, 1, 0}, ""},
		} {
			for _, synced := range []bool{false, true} {
				p := newPair(t, disk.New(), segment, 5)
				for _, data := range []string{"a", "b", "c", "d"} {
					p.append(t, data)
				}
				p.sync(t)
				for _, no := range c.acks {
					p.ack(t, no)
					if synced {
						p.sync(t)
					}
				}
				want(t, p.s, c.ready, 4-len(c.acks), 4)
				p.again(t)
				want(t, p.s, c.ready, 4-len(c.acks), 4)
			}
		}
	}
}

// Sync makes the last file sure, and all batches.
func TestSync(t *testing.T) {
	p := newPair(t, disk.New(), 40, 9)
	for i := range 9 {
		p.append(t, "abcdefgh")
		if i%3 == 1 {
			p.sync(t)
			p.sync(t)
			if got := len(p.s.Ready()); got != i+1 {
				t.Errorf("behind Sync %d are ready; want %d", got, i+1)
			}
			for _, no := range p.d.Files() {
				if b, _ := p.d.Read(no); p.d.Sure(no) != len(b) {
					t.Errorf("behind Sync %d bytes of file %d are not sure", len(b)-p.d.Sure(no), no)
				}
			}
		}
	}
	p.crash(t, 0)
	if got := len(p.s.Ready()); got < 8 {
		t.Errorf("behind a crash %d are ready; want 8 at least", got)
	}
}

// When this spool has written nothing no file is removed, though none has a batch; the disk's last one is synced.
func TestSyncOfNothingWritten(t *testing.T) {
	for _, files := range [][]file{
		nil,
		{{0, ""}},
		{{0, beginning(3)}},
		{{3, batch(0, "a")}},
		{{0, beginning(3)}, {1, beginning(4)}},
		{{0, batch(0, "a")}, {1, done(0)}, {2, "any bytes"}},
		{{greatest - 1, batch(0, "a")}, {greatest, ""}},
	} {
		p := newPair(t, of(t, files...), 10, 5)
		for range 3 {
			before := p.d.Copy()
			p.sync(t)
			wantAlike(t, p.d, before)
			p.again(t)
		}
	}
	d := disk.New()
	d.Write(3, []byte(batch(0, "a")))
	d.Write(5, []byte(batch(1, "b")))
	s := open(t, d, 10, 5)
	s.Sync()
	wantFile(t, d, 3, batch(0, "a"), 0)
	wantFile(t, d, 5, batch(1, "b"), len(batch(1, "b")))
	want(t, s, "0:a 1:b ", 2, 2)
}

// One file stays, whatever is in it.
func TestSyncOfOneFile(t *testing.T) {
	p := newPair(t, disk.New(), 1000, 5)
	p.append(t, "a")
	p.sync(t)
	wantSegments(t, p.s, 0)
	p.ack(t, 0)
	p.sync(t)
	wantSegments(t, p.s, 0)
	wantFile(t, p.d, 0, beginning(0)+batch(0, "a")+done(0), 22)
	p.sync(t)
	wantSegments(t, p.s, 0)
}

// Files whose batches are all done are removed, from the least number on, up to one in which a batch stands; the last one stays.
func TestSyncRemoves(t *testing.T) {
	for _, c := range []struct {
		acks []int
		want []int
	}{
		{nil, []int{0, 1, 2, 3}},
		{[]int{0}, []int{1, 2, 3, 4}},
		{[]int{1}, []int{0, 1, 2, 3, 4}},
		{[]int{2}, []int{0, 1, 2, 3, 4}},
		{[]int{3}, []int{0, 1, 2, 3, 4}},
		{[]int{0, 1}, []int{2, 3, 4, 5}},
		{[]int{1, 0}, []int{2, 3, 4, 5}},
		{[]int{0, 2}, []int{1, 2, 3, 4, 5}},
		{[]int{1, 2}, []int{0, 1, 2, 3, 4, 5}},
		{[]int{0, 3}, []int{1, 2, 3, 4, 5}},
		{[]int{2, 1, 0}, []int{3, 4, 5, 6}},
		{[]int{3, 2, 1}, []int{0, 1, 2, 3, 4, 5, 6}},
		{[]int{0, 1, 2, 3}, []int{7}},
		{[]int{3, 1, 2, 0}, []int{7}},
	} {
		p := newPair(t, disk.New(), 1, 5)
		for _, data := range []string{"a", "b", "c", "d"} {
			p.append(t, data)
		}
		p.sync(t)
		wantSegments(t, p.s, 0, 1, 2, 3)
		for _, no := range c.acks {
			p.ack(t, no)
		}
		ready := told(p.s.Ready())
		p.sync(t)
		wantSegments(t, p.s, c.want...)
		want(t, p.s, ready, 4-len(c.acks), 4)
		p.crash(t, 0)
		want(t, p.s, ready, 4-len(c.acks), 4)
		wantSegments(t, p.s, c.want...)
	}
}

// Batches that are not sure hold their files, too: by a Sync they become sure ahead of what is removed.
func TestSyncKeepsWhatWasNotSure(t *testing.T) {
	p := newPair(t, disk.New(), 1, 5)
	p.append(t, "a")
	p.append(t, "b")
	p.sync(t)
	wantSegments(t, p.s, 0, 1)
	p.append(t, "c")
	p.ack(t, 0)
	p.ack(t, 1)
	wantSegments(t, p.s, 0, 1, 2, 3, 4)
	p.sync(t)
	wantSegments(t, p.s, 2, 3, 4)
	want(t, p.s, "2:c ", 1, 3)
}

// Files that no spool wrote are removed as others are, when this spool has begun one.
func TestSyncRemovesOthers(t *testing.T) {
	files := []file{{0, "any bytes"}, {3, batch(0, "a")}, {4, ""}, {7, done(9)}, {8, batch(1, "b")}}
	d := of(t, files...)
	p := newPair(t, d, 1000, 5)
	p.sync(t)
	wantSegments(t, p.s, 0, 3, 4, 7, 8)
	p.append(t, "c")
	p.sync(t)
	wantSegments(t, p.s, 3, 4, 7, 8, 9)
	p.ack(t, 1)
	p.sync(t)
	wantSegments(t, p.s, 3, 4, 7, 8, 9)
	p.ack(t, 0)
	wantSegments(t, p.s, 3, 4, 7, 8, 9)
	p.sync(t)
	wantSegments(t, p.s, 9)
	want(t, p.s, "10:c ", 1, 11)
	p.crash(t, 0)
	want(t, p.s, "10:c ", 1, 11)
}

// A batch stands where the last of its records does: a file that has an earlier one may go.
func TestSyncOfTheLastRecord(t *testing.T) {
	for _, c := range []struct {
		files []file
		want  []int
	}{
		{[]file{{0, batch(0, "a")}, {1, batch(0, "b")}, {2, batch(1, "c")}}, []int{1, 2, 3}},
		{[]file{{0, batch(1, "a")}, {1, batch(0, "b")}, {2, batch(1, "c")}}, []int{1, 2, 3}},
		{[]file{{0, batch(0, "a")}, {1, done(0)}, {2, batch(0, "b")}}, []int{2, 3}},
		{[]file{{0, batch(0, "a")}, {1, done(0)}, {2, batch(1, "b")}}, []int{2, 3}},
		{[]file{{0, batch(5, "a") + "x" + batch(6, "b")}, {1, done(5)}, {2, beginning(1)}}, []int{3}},
	} {
		p := newPair(t, of(t, c.files...), 1000, 5)
		p.append(t, "new")
		p.sync(t)
		wantSegments(t, p.s, c.want...)
		ready := told(p.s.Ready())
		p.crash(t, 0)
		if got := told(p.s.Ready()); got != ready {
			t.Errorf("opened again: %q; want %q", got, ready)
		}
	}
}

// When all is done the last file tells Next's number still.
func TestNextStays(t *testing.T) {
	for _, segment := range []int{1, 20, 1000} {
		p := newPair(t, disk.New(), segment, 3)
		for i := range 30 {
			if no := p.append(t, "x"); no != i {
				t.Fatalf("Append: %d; want %d", no, i)
			}
			p.sync(t)
			if e := p.ack(t, i); e != api.OK {
				t.Fatalf("Ack: %d", e)
			}
			if i%2 == 0 {
				p.sync(t)
			}
			p.crash(t, uint64(i%5*1000))
			for p.s.Len() > 0 {
				p.ack(t, p.s.Ready()[0].Seq)
				p.sync(t)
			}
			want(t, p.s, "", 0, i+1)
		}
	}
}
