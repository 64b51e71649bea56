package disk_test

import (
	"bytes"
	"math/rand"
	"slices"
	"testing"

	"telemeter/api"
	"telemeter/disk"
)

// counts is how often each thing came about that drawn rows are to meet.
type counts map[string]int

func (c counts) want(t *testing.T, least int, names ...string) {
	t.Helper()
	if t.Failed() {
		return
	}
	for _, name := range names {
		if c[name] < least {
			t.Errorf("%s: %d times; want %d at least", name, c[name], least)
		}
	}
}

// anyNo is one of a few numbers, of a right one now and then, and of a wrong one.
func anyNo(r *rand.Rand, few int) int {
	switch r.Intn(14) {
	case 0:
		return right()[r.Intn(len(right()))]
	case 1:
		return wrong()[r.Intn(len(wrong()))]
	}
	return 3 * r.Intn(few)
}

// call asks the disk and the words the same.
func (p *pair) call(t *testing.T, r *rand.Rand, few int, c counts) {
	t.Helper()
	no := anyNo(r, few)
	is, sure := p.w.is(no), p.w.sure(no)
	switch r.Intn(10) {
	case 0, 1:
		if is && sure > 0 {
			c["Sync again"]++
		}
		p.sync(t, no)
	case 2:
		if is && sure > 0 {
			c["Remove of what was sure"]++
		}
		p.remove(t, no)
	case 3:
		if r.Intn(3) == 0 {
			p.countCrash(t, anyDraw(r), c)
		}
	default:
		switch {
		case no < 0 || no > greatest:
			c["ErrArg"]++
		case !is:
			c["a file begins"]++
		case sure > 0:
			c["behind what is sure"]++
		}
		p.write(t, no, bytesOf(r, r.Intn(5)))
	}
	if !is {
		c["not there"]++
	}
}

// countCrash counts what the crash did.
func (p *pair) countCrash(t *testing.T, draw uint64, c counts) {
	t.Helper()
	before := p.w.copied()
	p.crash(t, draw)
	for _, no := range before.there {
		was, _ := before.read(no)
		b, _ := p.w.read(no)
		switch {
		case len(was) == before.sure(no):
			c["all was sure"]++
		case len(b) == 0:
			c["all is lost"]++
		case len(b) == before.sure(no):
			c["what was sure stays alone"]++
		case len(b) == len(was):
			c["all stays"]++
		default:
			c["some stays"]++
		}
	}
}

// Rows of calls, drawn, against the chapter's words.
func TestAsWorded(t *testing.T) {
	c := counts{}
	drawn(t, 5, 2500, func(r *rand.Rand) {
		p := newPair()
		few := 1 + r.Intn(6)
		for range r.Intn(80) {
			p.call(t, r, few, c)
		}
		p.crash(t, anyDraw(r))
	})
	c.want(t, 300, "ErrArg", "a file begins", "behind what is sure", "not there", "Sync again", "Remove of what was sure",
		"all was sure", "all is lost", "what was sure stays alone", "all stays", "some stays")
}

// Rows of calls of disks and their copies, drawn: none knows of another.
func TestCopiesAsWorded(t *testing.T) {
	drawn(t, 6, 300, func(r *rand.Rand) {
		all := []*pair{newPair()}
		for range 60 {
			p := all[r.Intn(len(all))]
			p.call(t, r, 4, counts{})
			if r.Intn(12) == 0 {
				all = append(all, p.copied())
			}
		}
		for _, p := range all {
			p.look(t)
		}
	})
}

// What was sure stays, through rows of crashes: each file begins with what was sure of it once, till it is removed, and what stays of the rest is a beginning of it.
func TestSureStays(t *testing.T) {
	drawn(t, 7, 400, func(r *rand.Rand) {
		d := disk.New()
		written, sure := map[int][]byte{}, map[int]int{}
		for range 60 {
			no := r.Intn(5)
			switch r.Intn(8) {
			case 0:
				if d.Sync(no) == api.OK {
					sure[no] = len(written[no])
				}
			case 1:
				if r.Intn(3) == 0 {
					d.Remove(no)
					delete(written, no)
					delete(sure, no)
				}
			case 2:
				for range 1 + r.Intn(3) {
					d.Crash(anyDraw(r))
					wantBeginnings(t, d, written, sure)
				}
			default:
				b := bytesOf(r, r.Intn(20))
				wantOK(t, d.Write(no, b))
				written[no] = append(written[no], b...)
			}
		}
	})
}

// wantBeginnings takes what stayed behind a crash as what was written, and as what is sure.
func wantBeginnings(t *testing.T, d *disk.Disk, written map[int][]byte, sure map[int]int) {
	t.Helper()
	for _, no := range d.Files() {
		if _, is := written[no]; !is {
			t.Fatalf("a file that nothing was written to: %d", no)
		}
	}
	for no := range 5 {
		b, e := d.Read(no)
		is := slices.Contains(d.Files(), no)
		if is != (e == api.OK) || is != (len(b) > 0) {
			t.Fatalf("Read(%d): %s, %d; it is there: %t", no, short(b), e, is)
		}
		if len(b) < sure[no] || !bytes.HasPrefix(written[no], b) || d.Sure(no) != len(b) {
			t.Fatalf("Read(%d): %s, of which %d are sure; want a beginning of %s, no less than %d", no, short(b), d.Sure(no), short(written[no]), sure[no])
		}
		delete(written, no)
		delete(sure, no)
		if is {
			written[no], sure[no] = b, len(b)
		}
	}
}

// Any calls, of any numbers, with any draws: each ends, and none panics.
func TestAnyCalls(t *testing.T) {
	all := append(append(right(), wrong()...), 3, 4, 5, 6)
	drawn(t, 8, 60, func(r *rand.Rand) {
		d := disk.New()
		for range 400 {
			no := all[r.Intn(len(all))]
			switch r.Intn(8) {
			case 0:
				d.Sync(no)
			case 1:
				d.Remove(no)
			case 2:
				d.Crash(anyDraw(r))
			case 3:
				d.Read(no)
			case 4:
				d.Sure(no)
			case 5:
				d = d.Copy()
			default:
				d.Write(no, bytesOf(r, r.Intn(100)))
			}
			for _, no := range d.Files() {
				if no < 0 || no > greatest {
					t.Fatalf("there is a file of number %d", no)
				}
				if b, e := d.Read(no); e != api.OK || d.Sure(no) < 0 || d.Sure(no) > len(b) {
					t.Fatalf("file %d: %s, %d, of which %d are sure", no, short(b), e, d.Sure(no))
				}
			}
		}
	})
}
