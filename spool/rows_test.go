package spool_test

import (
	"math"
	"math/rand"
	"strings"
	"testing"

	"telemeter/api"
	"telemeter/disk"
)

// counts is how often each thing came about that drawn rows are to meet.
type counts map[string]int

func (c counts) of(is bool, name string) {
	if is {
		c[name]++
	}
}

func (c counts) want(t *testing.T, least int, names ...string) {
	t.Helper()
	if t.Failed() {
		return
	}
	for _, name := range names {
		if c[name] < least {
			t.Errorf("%s: %d times; want %d at least", name, c[name], least)
		}
	}
}

// anyNo is one of a few numbers, and a great one now and then.
func anyNo(r *rand.Rand) uint64 {
	great := []uint64{127, 128, 1 << 32, greatest - 2, greatest - 1, greatest, greatest + 1, math.MaxInt64, math.MaxUint64}
	if r.Intn(15) == 0 {
		return great[r.Intn(len(great))]
	}
	return uint64(r.Intn(12))
}

// anyFile is records, most of which are right, of few numbers, and of great ones; some files are bent, cut, or more.
func anyFile(r *rand.Rand) string {
	s := ""
	for range r.Intn(8) {
		switch r.Intn(16) {
		case 0:
			s += rec(byte(r.Intn(6)), anyNo(r), bytesOf(r, r.Intn(3)))
		case 1, 2:
			s += beginning(anyNo(r))
		case 3, 4, 5, 6:
			s += done(anyNo(r))
		case 7:
			s += framed(bytesOf(r, r.Intn(4)))
		default:
			s += batch(anyNo(r), bytesOf(r, r.Intn(5)))
		}
	}
	if s == "" {
		return bytesOf(r, r.Intn(12))
	}
	b := []byte(s)
	switch r.Intn(6) {
	case 0:
		b[r.Intn(len(b))] ^= byte(1 + r.Intn(255))
	case 1:
		b = b[:r.Intn(len(b))]
	case 2:
		at := r.Intn(len(b))
		b = append(b[:at:at], b[at+1:]...)
	}
	return string(b)
}

// anyData is short as a rule.
func anyData(r *rand.Rand) string {
	switch r.Intn(30) {
	case 0:
		return bytesOf(r, 3990+r.Intn(20))
	case 1:
		return bytesOf(r, r.Intn(300))
	}
	return bytesOf(r, r.Intn(6))
}

// number is that of a batch that is there, as a rule.
func (p *pair) number(r *rand.Rand) int {
	if there := p.w.there(); len(there) > 0 && r.Intn(5) > 0 {
		return there[r.Intn(len(there))].no
	}
	return p.s.Next() - 3 + r.Intn(5)
}

// call asks the spool and the words the same.
func (p *pair) call(t *testing.T, r *rand.Rand, c counts) {
	t.Helper()
	switch r.Intn(14) {
	case 0, 1:
		before := p.d.Files()
		p.sync(t)
		after := p.d.Files()
		c.of(len(after) < len(before), "files are removed")
		c.of(len(after) < len(before) && len(after) > 1, "some files are removed")
		c.of(!p.w.begun && len(after) > 1, "none are removed, as none was begun")
	case 2, 3, 4, 5, 6:
		no := p.number(r)
		is := p.s.Has(no)
		e := p.ack(t, no)
		c.of(e == api.OK, "Ack")
		c.of(e != api.OK && is, "Ack of what is not sure")
		c.of(e != api.OK && !is, "Ack of what is not there")
	case 7:
		p.open(t, r, c)
	default:
		data, next, files := anyData(r), p.s.Next(), len(p.d.Files())
		p.append(t, data)
		c.of(len(data) > 4000, "ErrLong")
		c.of(len(data) <= 4000 && p.s.Next() == next, "ErrFull")
		c.of(p.s.Next() > next, "Append")
		c.of(p.s.Next() > next && len(p.d.Files()) > files, "Append to a new file")
		c.of(p.s.Len() > p.w.most, "more than most are there")
	}
}

// open opens the disk again, as it is, or behind a crash, or with other bounds.
func (p *pair) open(t *testing.T, r *rand.Rand, c counts) {
	t.Helper()
	n := p.s.Len()
	switch r.Intn(6) {
	case 0:
		p.again(t)
		c.of(p.s.Len() == n && n > 0, "opened as it is")
	case 1:
		*p = *newPair(t, p.d, 1+r.Intn(100), 1+r.Intn(10))
	case 2:
		p.crash(t, anyDraw(r))
		p.again(t)
	default:
		p.crash(t, anyDraw(r))
		c.of(p.s.Len() < n, "batches are lost")
		c.of(p.s.Len() > n, "batches are there again")
		c.of(p.s.Len() == n && n > 0, "as many are there")
	}
}

// Rows of calls, crashes and openings, drawn, against the chapter's words.
func TestAsWorded(t *testing.T) {
	c := counts{}
	drawn(t, 4, 600, func(r *rand.Rand) {
		segment := []int{1, 20, 40, 100, 1000, long}[r.Intn(6)]
		p := newPair(t, disk.New(), segment, 1+r.Intn(10))
		for range r.Intn(90) {
			p.call(t, r, c)
		}
		p.crash(t, anyDraw(r))
	})
	c.want(t, 100, "files are removed", "some files are removed", "none are removed, as none was begun", "Ack", "Ack of what is not sure",
		"Ack of what is not there", "ErrLong", "ErrFull", "Append", "Append to a new file", "opened as it is", "batches are lost", "batches are there again", "as many are there")
}

// The same on disks that have any files: no bytes on a disk make a call panic, and each ends.
func TestAnyDisksAsWorded(t *testing.T) {
	c := counts{}
	drawn(t, 5, 2500, func(r *rand.Rand) {
		d := disk.New()
		for range r.Intn(6) {
			no := r.Intn(8)
			d.Write(no, []byte(anyFile(r)))
			if r.Intn(2) == 0 {
				d.Sync(no)
			}
		}
		p := newPair(t, d, 1+r.Intn(100), 1+r.Intn(10))
		c.of(p.s.Len() > 0, "batches")
		c.of(p.s.Len() > p.w.most, "more than most")
		c.of(p.s.Next() > 1<<30, "great numbers")
		c.of(p.s.Len() == 0 && len(d.Files()) > 0, "none")
		if p.s.Next() > greatest-50 {
			return // behind these no record may be
		}
		for range r.Intn(20) {
			p.call(t, r, c)
		}
	})
	c.want(t, 50, "batches", "more than most", "great numbers", "none", "files are removed", "more than most are there")
}

// Each row of four calls, of a few, by several segments.
func TestEachShortRow(t *testing.T) {
	calls := []func(p *pair){
		func(p *pair) { p.append(t, "a") },
		func(p *pair) { p.append(t, "") },
		func(p *pair) { p.sync(t) },
		func(p *pair) { p.ack(t, 0) },
		func(p *pair) { p.ack(t, 1) },
		func(p *pair) { p.again(t) },
		func(p *pair) { p.crash(t, 0) },
		func(p *pair) { p.crash(t, 12) },
	}
	for _, segment := range []int{1, 16, 100} {
		for row := range 8 * 8 * 8 * 8 {
			p := newPair(t, disk.New(), segment, 2)
			p.append(t, "first")
			if row%2 == 0 {
				p.sync(t)
			}
			for left := row; left > 0; left /= 8 {
				calls[left%8](p)
			}
			if t.Failed() {
				t.Fatalf("row %o, by segment %d", row, segment)
			}
		}
	}
}

// Any bytes, as files of any numbers: Open ends, and so does each call of what it tells.
func TestAnyBytes(t *testing.T) {
	drawn(t, 6, 3000, func(r *rand.Rand) {
		d := disk.New()
		for range 1 + r.Intn(4) {
			b := bytesOf(r, r.Intn(200))
			if r.Intn(2) == 0 {
				b = strings.Repeat(anyFile(r), r.Intn(4)) + anyFile(r)
			}
			d.Write([]int{0, 1, 2, 1000, greatest - 1, greatest}[r.Intn(6)], []byte(b))
		}
		s := open(t, d, 1+r.Intn(100), 1+r.Intn(10))
		for range 20 {
			switch r.Intn(5) {
			case 0:
				s.Sync()
			case 1:
				s.Append([]byte(anyData(r)))
			case 2:
				d.Crash(anyDraw(r))
				s = open(t, d, 1+r.Intn(100), 1+r.Intn(10))
			default:
				s.Ack(int(anyNo(r)))
			}
			if ready := s.Ready(); len(ready) > s.Len() || s.Next() < 0 {
				t.Fatalf("Ready, Len, Next: %s, %d, %d", told(ready), s.Len(), s.Next())
			}
		}
	})
}
