package spool_test

import (
	"fmt"
	"math/rand"
	"slices"
	"strings"
	"testing"

	"telemeter/api"
	"telemeter/disk"
	"telemeter/spool"
)

// What holds: what was sure, and not surely done, is there again, in order; of the others a beginning. It is held against what the calls told, and not against what is on the disk.

// state is what is there at a time: each batch, by rising numbers, whether sure or not, and the next number.
type state struct {
	there []api.Batch
	next  int
}

func (s state) text() string {
	return fmt.Sprintf("%snext %d", told(s.there), s.next)
}

// story is all states since the one that is sure: what a crash leaves is one of them.
type story struct {
	s      *spool.Spool
	d      *disk.Disk
	states []state
}

func newStory(t *testing.T, d *disk.Disk, segment, most int) *story {
	t.Helper()
	s := open(t, d, segment, most)
	return &story{s, d, []state{{s.Ready(), s.Next()}}}
}

func (y *story) now() state {
	return y.states[len(y.states)-1]
}

// call does what a word asks for: + appends, s syncs, 0 to 9 are done.
func (y *story) call(t *testing.T, word byte) {
	t.Helper()
	now := y.now()
	there := slices.Clone(now.there)
	switch {
	case word == '+':
		data := []byte(strings.Repeat(string(rune('a'+now.next%26)), now.next%13))
		if no, e := y.s.Append(data); e == api.OK {
			if no != now.next {
				t.Fatalf("Append: %d; want %d", no, now.next)
			}
			y.states = append(y.states, state{append(there, api.Batch{Seq: no, Data: data}), no + 1})
		}
	case word == 's':
		y.s.Sync()
		y.states = []state{now}
	default:
		no := int(word - '0')
		if y.s.Ack(no) == api.OK {
			at := slices.IndexFunc(there, func(b api.Batch) bool { return b.Seq == no })
			y.states = append(y.states, state{slices.Delete(there, at, at+1), now.next})
		}
	}
}

// left is which of the states a spool has that was opened behind a crash; its answers are the same when it is opened twice.
func (y *story) left(t *testing.T, d *disk.Disk, segment, most, from int) int {
	t.Helper()
	s := open(t, d, segment, most)
	got := state{s.Ready(), s.Next()}
	twice := open(t, d, segment, most)
	if again := (state{twice.Ready(), twice.Next()}); again.text() != got.text() || twice.Len() != s.Len() || s.Len() != len(got.there) {
		t.Fatalf("opened twice: %s; want %s", again.text(), got.text())
	}
	for i := from; i < len(y.states); i++ {
		if y.states[i].text() == got.text() {
			return i
		}
	}
	t.Fatalf("behind a crash: %s; want one of %v", got.text(), y.states[from:])
	return 0
}

// unsure is how many bytes are not sure.
func unsure(d *disk.Disk) int {
	n := 0
	for _, no := range d.Files() {
		b, _ := d.Read(no)
		n += len(b) - d.Sure(no)
	}
	return n
}

// crashes crashes copies of the disk by each draw: the more of the bytes stay, the later the state; of none it is sure, of all the last one.
func (y *story) crashes(t *testing.T, segment, most int) {
	t.Helper()
	n := unsure(y.d)
	from := 0
	for stay := range n + 1 {
		for _, draw := range []int{stay, stay + n + 1, stay + (n+1)*1000003} {
			d := y.d.Copy()
			d.Crash(uint64(draw))
			from = y.left(t, d, segment, most, from)
		}
	}
	if y.now().text() != y.states[from].text() {
		t.Fatalf("behind a crash that keeps all: %s; want %s", y.states[from].text(), y.now().text())
	}
	if n == 0 && len(y.states) > 1 && y.states[0].text() != y.now().text() {
		t.Fatalf("all is sure on the disk, though not synced")
	}
}

// rows of calls, in which there are all kinds of them, in many orders.
func rowsOfCalls() []string {
	return []string{
		"++++s0123s",
		"+s0s+s1s+s2s",
		"+++s+1+2s0s3s4s",
		"s+s+s+s210sss",
		"+++++ss43210+++s",
		"++s+0+1s23+s4+s5s",
		"+s+s+s+s+s+s+s0s2s1s4s3s6s5s",
		"+++s0++1++2+++3s45678s9",
		"+0s0+1s1+2s2",
	}
}

// At every place of a row of calls the disk crashes, by each draw.
func TestCrashAtEveryPlace(t *testing.T) {
	for _, row := range rowsOfCalls() {
		for _, segment := range []int{1, 15, 30, 60, 1000} {
			for _, most := range []int{3, 20} {
				y := newStory(t, disk.New(), segment, most)
				for i := range len(row) {
					y.call(t, row[i])
					y.crashes(t, segment, most)
				}
				if t.Failed() {
					t.Fatalf("%s, by segment %d", row, segment)
				}
			}
		}
	}
}

// The same, on a disk that crashed, and was opened again, in the middle of the row, and on one that was opened as it was.
func TestCrashAndOn(t *testing.T) {
	for _, row := range rowsOfCalls() {
		for middle := range len(row) {
			for _, keep := range []int{0, 1, 2} {
				for _, segment := range []int{1, 30, 1000} {
					y := newStory(t, disk.New(), segment, 20)
					for i := range middle {
						y.call(t, row[i])
					}
					if keep < 2 {
						y.d.Crash(uint64(keep * unsure(y.d)))
					}
					y = newStory(t, y.d, segment, 20)
					y.s.Sync() // an opened spool has its batches as sure; a disk that did not crash has them so behind this
					for i := middle; i < len(row); i++ {
						y.call(t, row[i])
						y.crashes(t, segment, 20)
					}
					if t.Failed() {
						t.Fatalf("%s, from %d on, by segment %d", row, middle, segment)
					}
				}
			}
		}
	}
}

// Rows of calls, drawn, through many crashes, with the segments that are drawn, too.
func TestCrashesOnAndOn(t *testing.T) {
	c := counts{}
	drawn(t, 2, 300, func(r *rand.Rand) {
		d := disk.New()
		y := newStory(t, d, 1+r.Intn(100), 1+r.Intn(8))
		for range 60 {
			segment, most := 1+r.Intn(100), 1+r.Intn(8)
			switch r.Intn(12) {
			case 0:
				was, draw := len(y.states), anyDraw(r)
				if r.Intn(3) == 0 {
					draw = uint64(unsure(d)) // all of it stays
				}
				d.Crash(draw)
				at := y.left(t, d, segment, most, 0)
				c.of(at == 0 && was > 1, "what was sure is left alone")
				c.of(at > 0 && at < was-1, "some of the others is left")
				c.of(at > 0 && at == was-1, "all is left")
				y = newStory(t, d, segment, most)
			case 1, 2, 3:
				y.call(t, 's')
			case 4, 5, 6:
				if now := y.now(); len(now.there) > 0 {
					no := now.there[r.Intn(len(now.there))].Seq
					y.done(t, no)
				}
			default:
				y.call(t, '+')
			}
		}
		y.crashes(t, 100, 8)
	})
	c.want(t, 100, "what was sure is left alone", "some of the others is left", "all is left")
}

// done is the call of any number.
func (y *story) done(t *testing.T, no int) {
	t.Helper()
	now := y.now()
	if y.s.Ack(no) == api.OK {
		there := slices.DeleteFunc(slices.Clone(now.there), func(b api.Batch) bool { return b.Seq == no })
		y.states = append(y.states, state{there, now.next})
	}
}

// A number that Ready told, so that it may be sent, is never another batch's, whatever is done, lost, and removed: Append tells greater ones alone.
func TestNumbersNeverComeAgain(t *testing.T) {
	c := counts{}
	drawn(t, 3, 400, func(r *rand.Rand) {
		d := disk.New()
		segment, most := 1+r.Intn(80), 1+r.Intn(6)
		s := open(t, d, segment, most)
		ready := map[int]string{}
		told, lost := -1, map[int]string{}
		for i := range 80 {
			switch r.Intn(10) {
			case 0:
				d.Crash(anyDraw(r))
				s = open(t, d, segment, most)
			case 1, 2:
				s.Sync()
			case 3, 4, 5:
				if all := s.Ready(); len(all) > 0 {
					wantAck(t, s, all[r.Intn(len(all))].Seq, api.OK)
					c.of(s.Len() == 0, "all is done")
				}
			default:
				data := fmt.Sprint("data ", i)
				no, e := s.Append([]byte(data))
				if e != api.OK {
					continue
				}
				if no <= told {
					t.Fatalf("Append: %d; %d was told to be ready", no, told)
				}
				c.of(lost[no] != "", "a number that was not sure, and lost")
				lost[no] = data
			}
			for _, b := range s.Ready() {
				if was, is := ready[b.Seq]; is && was != string(b.Data) {
					t.Fatalf("batch %d is %s; it was %s", b.Seq, b.Data, was)
				}
				if string(b.Data) != lost[b.Seq] {
					t.Fatalf("batch %d is %s; what was appended is %s", b.Seq, b.Data, lost[b.Seq])
				}
				ready[b.Seq] = string(b.Data)
				told = max(told, b.Seq)
			}
			if s.Next() <= told {
				t.Fatalf("Next: %d; %d was told to be ready", s.Next(), told)
			}
		}
	})
	c.want(t, 100, "all is done", "a number that was not sure, and lost")
}

// A batch that was never sure, and was lost, gives its number free: nothing tells that there was one.
func TestNumberOfWhatWasLost(t *testing.T) {
	d := disk.New()
	s := open(t, d, 100, 5)
	wantAppend(t, s, "a", 0, api.OK)
	d.Crash(0)
	s = open(t, d, 100, 5)
	want(t, s, "", 0, 0)
	wantSegments(t, s)
	wantAppend(t, s, "b", 0, api.OK)
	s.Sync()
	wantAppend(t, s, "c", 1, api.OK)
	d.Crash(0)
	want(t, open(t, d, 100, 5), "0:b ", 1, 1)
}

// What a crash leaves of a record's beginning ends its file: what is written next stands in the file behind it.
func TestHalfARecordIsLeft(t *testing.T) {
	for stay := range len(batch(1, "second")) {
		d := disk.New()
		s := open(t, d, 1000, 5)
		wantAppend(t, s, "a", 0, api.OK)
		s.Sync()
		wantAppend(t, s, "second", 1, api.OK)
		d.Crash(uint64(stay))
		first := beginning(0) + batch(0, "a") + batch(1, "second")[:stay]
		wantFile(t, d, 0, first, len(first))
		s = open(t, d, 1000, 5)
		want(t, s, "0:a ", 1, 1)
		wantAppend(t, s, "b", 1, api.OK)
		wantFile(t, d, 0, first, len(first))
		wantFile(t, d, 1, beginning(1)+batch(1, "b"), 0)
		want(t, open(t, d, 1000, 5), "0:a 1:b ", 2, 2)
	}
}

// A done one that is not sure is there again; it is told as it was, and done again.
func TestDoneAgain(t *testing.T) {
	d := disk.New()
	s := open(t, d, 1000, 5)
	for i, data := range []string{"a", "b", "c"} {
		wantAppend(t, s, data, i, api.OK)
	}
	s.Sync()
	for range 5 {
		wantAck(t, s, 1, api.OK)
		want(t, s, "0:a 2:c ", 2, 3)
		d.Crash(0)
		s = open(t, d, 1000, 5)
		want(t, s, "0:a 1:b 2:c ", 3, 3)
	}
	wantAck(t, s, 1, api.OK)
	s.Sync()
	d.Crash(0)
	want(t, open(t, d, 1000, 5), "0:a 2:c ", 2, 3)
}
