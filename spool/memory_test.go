package spool_test

import (
	"bytes"
	"fmt"
	"math/rand"
	"runtime"
	"slices"
	"testing"

	"telemeter/api"
	"telemeter/disk"
	"telemeter/spool"
)

// R2: what is handed in is neither changed nor kept (but the disk), what comes out is new memory, and what stands behind a list's length counts for nothing.

// scribble writes over a list, and over what lies behind it.
func scribble(b []byte) {
	b = b[:cap(b)]
	for i := range b {
		b[i] = 'S'
	}
}

// What is handed to Append is as it was, also behind its length, by each call that follows; and what is written over it is not in the spool.
func TestAppendKeepsNothing(t *testing.T) {
	for _, room := range []int{0, 1, 5, 100, 5000} {
		for _, n := range []int{0, 1, 3, 200, 4000} {
			memory := bytes.Repeat([]byte("m"), n+room)
			data := memory[:n]
			for i := range data {
				data[i] = byte(i)
			}
			was := slices.Clone(memory)
			wanted := string(data)
			d := disk.New()
			s := open(t, d, 100, 3)
			same := func() {
				t.Helper()
				if !bytes.Equal(memory, was) {
					t.Fatalf("what was handed in became %s; it was %s", short(memory), short(was))
				}
			}
			if no, e := s.Append(data); no != 0 || e != api.OK {
				t.Fatalf("Append: %d, %d", no, e)
			}
			same()
			wantAppend(t, s, "b", 1, api.OK)
			s.Sync()
			same()
			s.Ready()
			scribble(data)
			wantReady(t, s, api.Batch{Seq: 0, Data: []byte(wanted)}, api.Batch{Seq: 1, Data: []byte("b")})
			wantReady(t, open(t, d, 100, 3), api.Batch{Seq: 0, Data: []byte(wanted)}, api.Batch{Seq: 1, Data: []byte("b")})
		}
	}
}

// What is refused is as it was, too.
func TestRefusedIsAsItWas(t *testing.T) {
	s := open(t, disk.New(), 100, 1)
	for _, n := range []int{4001, 3, 3, 4001} {
		memory := bytes.Repeat([]byte("m"), n+10)
		s.Append(memory[:n])
		if !bytes.Equal(memory, bytes.Repeat([]byte("m"), n+10)) {
			t.Errorf("what was handed in became %s", short(memory))
		}
	}
}

// One list that is appended again and again, and changed between, is in each batch as it was.
func TestAppendOfOneList(t *testing.T) {
	d := disk.New()
	s := open(t, d, 50, 30)
	b := []byte("a")
	for i := range 26 {
		b[0] = byte('a' + i)
		if no, e := s.Append(b); no != i || e != api.OK {
			t.Fatalf("Append: %d, %d", no, e)
		}
	}
	b[0] = '-'
	s.Sync()
	for _, s := range []*spool.Spool{s, open(t, d, 50, 30)} {
		for i, b := range s.Ready() {
			if b.Seq != i || string(b.Data) != string(rune('a'+i)) {
				t.Errorf("batch %d is %d, %s", i, b.Seq, b.Data)
			}
		}
	}
}

// What Ready and Segments tell is no memory of the spool's, of its disk's, nor of another answer's: of batches that were appended, and of such as were read.
func TestAnswersAreApart(t *testing.T) {
	for _, opened := range []bool{false, true} {
		for _, n := range []int{1, 2, 3, 7, 8, 9, 100} {
			d := disk.New()
			s := open(t, d, 20, 200)
			var wanted []api.Batch
			var files []int
			for i := range n {
				data := bytes.Repeat([]byte{byte('a' + i%26)}, i%40)
				wantAppend(t, s, string(data), i, api.OK)
				wanted = append(wanted, api.Batch{Seq: i, Data: data})
			}
			s.Sync()
			if opened {
				s = open(t, d, 20, 200)
			}
			files = append(files, d.Files()...)
			before := d.Copy()

			one, two := s.Ready(), s.Ready()
			for i := range one {
				scribble(one[i].Data)
				_ = append(one[i].Data, "behind"...)
				one[i] = api.Batch{Seq: -7}
			}
			_ = append(one, api.Batch{}, api.Batch{})
			if told(two) != told(wanted) {
				t.Errorf("what was written over one answer is in another: %s", told(two))
			}
			wantReady(t, s, wanted...)
			wantReady(t, open(t, d, 20, 200), wanted...)

			first, second := s.Segments(), s.Segments()
			for i := range first {
				first[i] = -7
			}
			_ = append(first, -8, -9)
			if !slices.Equal(second, files) {
				t.Errorf("what was written over one answer is in another: %v", second)
			}
			wantSegments(t, s, files...)
			wantAlike(t, d, before)
		}
	}
}

// No two batches of one answer share memory, nor do the data of one number.
func TestBatchesOfOneAnswerAreApart(t *testing.T) {
	d := of(t, file{0, batch(0, "aaaa") + batch(1, "bbbb") + batch(0, "cccc") + batch(2, "")})
	s := open(t, d, 100, 10)
	wantAppend(t, s, "dddd", 3, api.OK)
	s.Sync()
	for i, want := range []string{"0:SSSS 1:bbbb 2: 3:dddd ", "0:cccc 1:SSSS 2: 3:dddd ", "0:cccc 1:bbbb 2: 3:dddd ", "0:cccc 1:bbbb 2: 3:SSSS "} {
		all := s.Ready()
		scribble(all[i].Data)
		if got := told(all); got != want {
			t.Errorf("written over batch %d: %s; want %s", i, got, want)
		}
	}
}

// What was told stays as it was, whatever is done then.
func TestAnswersStay(t *testing.T) {
	d := disk.New()
	s := open(t, d, 1, 20)
	for _, data := range []string{"a", "b", "c"} {
		s.Append([]byte(data))
	}
	s.Sync()
	ready, files := s.Ready(), s.Segments()
	for i := range 3 {
		s.Ack(i)
		s.Sync()
		s.Append([]byte("0123456789"))
	}
	s.Sync()
	d.Crash(0)
	open(t, d, 100, 20).Sync()
	if got := told(ready); got != "0:a 1:b 2:c " || !slices.Equal(files, []int{0, 1, 2}) {
		t.Errorf("what was told became %s, %v", got, files)
	}
}

// deeds are what may be done to a spool of three batches, of which the last one is not sure.
func deeds() map[string]func(s *spool.Spool) {
	return map[string]func(s *spool.Spool){
		"nothing": func(s *spool.Spool) {},
		"Append":  func(s *spool.Spool) { s.Append([]byte("new")) },
		"Appends": func(s *spool.Spool) {
			for range 10 {
				s.Append([]byte("new"))
			}
		},
		"Ack":  func(s *spool.Spool) { s.Ack(0) },
		"Sync": func(s *spool.Spool) { s.Sync() },
		"all": func(s *spool.Spool) {
			for i := range 3 {
				s.Sync()
				s.Ack(i)
				s.Append([]byte("new"))
			}
			s.Sync()
		},
	}
}

func three(t *testing.T, d *disk.Disk) *spool.Spool {
	t.Helper()
	s := open(t, d, 20, 6)
	wantAppend(t, s, "a", 0, api.OK)
	wantAppend(t, s, "b", 1, api.OK)
	s.Sync()
	wantAppend(t, s, "c", 2, api.OK)
	return s
}

// R4: spools on unlike disks, a copy among them, know nothing of one another.
func TestSpoolsAreApart(t *testing.T) {
	for name, deed := range deeds() {
		first, second := disk.New(), disk.New()
		one, two := three(t, first), three(t, second)
		third := first.Copy()
		before := second.Copy()
		three := open(t, third, 20, 6)
		deed(one)
		want(t, two, "0:a 1:b ", 3, 3)
		want(t, three, "0:a 1:b 2:c ", 3, 3)
		wantHas(t, two, true, 0, 1, 2)
		wantHas(t, two, false, 3, 4)
		wantAlike(t, second, before)
		wantAlike(t, third, before)
		for other, deed := range deeds() {
			now, ready, next := first.Copy(), told(one.Ready()), one.Next()
			deed(two)
			deed(three)
			wantAlike(t, first, now)
			want(t, one, ready, one.Len(), next)
			if t.Failed() {
				t.Fatalf("%s, and then %s of the other ones", name, other)
			}
		}
	}
}

// Rows of calls of some spools, drawn, each on a disk of its own: each is as the words have it.
func TestSpoolsAsWorded(t *testing.T) {
	drawn(t, 7, 60, func(r *rand.Rand) {
		var all []*pair
		for range 4 {
			all = append(all, newPair(t, disk.New(), 1+r.Intn(60), 1+r.Intn(6)))
		}
		for range 80 {
			all[r.Intn(4)].call(t, r, counts{})
			if r.Intn(20) == 0 {
				all[r.Intn(4)] = newPair(t, all[r.Intn(4)].d.Copy(), 1+r.Intn(60), 1+r.Intn(6))
			}
		}
		for _, p := range all {
			p.look(t)
		}
	})
}

// held is how many bytes are held at all.
func held() uint64 {
	var m runtime.MemStats
	runtime.GC()
	runtime.ReadMemStats(&m)
	return m.HeapAlloc
}

// What is done is held no more, neither by the spool nor by its disk: of many million bytes next to none are left.
func TestNoMoreIsHeld(t *testing.T) {
	d := disk.New()
	s := open(t, d, 10000, 10)
	data := bytes.Repeat([]byte("d"), 4000)
	before := held()
	for i := range 3000 {
		if no, e := s.Append(data); no != i || e != api.OK {
			t.Fatalf("Append: %d, %d", no, e)
		}
		if s.Len() == 10 {
			s.Sync()
			for _, b := range s.Ready() {
				wantAck(t, s, b.Seq, api.OK)
			}
		}
	}
	s.Sync()
	if after := held(); after > before+2000000 {
		t.Errorf("%d bytes more are held", after-before)
	}
	if len(d.Files()) != 1 {
		t.Errorf("%d files are left; want 1", len(d.Files()))
	}
	want(t, s, "", 0, 3000)
	runtime.KeepAlive(data)
}

// Many files, of which the first has a batch, and then has none: a Sync takes all of them but the last one.
func TestManyFiles(t *testing.T) {
	d := disk.New()
	s := open(t, d, 1, 1000)
	for i := range 1000 {
		wantAppend(t, s, fmt.Sprint(i), i, api.OK)
	}
	s.Sync()
	for i := range 999 {
		wantAck(t, s, 999-i, api.OK)
		if i%100 == 0 {
			s.Sync()
		}
	}
	want(t, s, "0:0 ", 1, 1000)
	if n := len(d.Files()); n != 1999 {
		t.Errorf("there are %d files; want 1999", n)
	}
	wantAck(t, s, 0, api.OK)
	s.Sync()
	wantSegments(t, s, 1999)
	want(t, open(t, d, 1, 1000), "", 0, 1000)
}
