package disk_test

import (
	"bytes"
	"math/rand"
	"runtime"
	"slices"
	"testing"

	"telemeter/api"
	"telemeter/disk"
)

// R2: what is handed in is neither changed nor kept, what comes out is new memory, and what stands behind a list's length counts for nothing.

// scribble writes over a list, and over what lies behind it.
func scribble(b []byte) {
	b = b[:cap(b)]
	for i := range b {
		b[i] = 'S'
	}
}

// What is handed to Write is as it was, also behind its length, by each call that follows; and what is written over it is not in the file.
func TestWriteKeepsNothing(t *testing.T) {
	for _, room := range []int{0, 1, 5, 100} {
		for _, ahead := range []string{"", "xy"} {
			d := of(t, laid{1, "", ahead})
			memory := bytes.Repeat([]byte("m"), 3+room)
			b := memory[:3]
			copy(b, "abc")
			want := slices.Clone(memory)
			same := func() {
				t.Helper()
				if !bytes.Equal(memory, want) {
					t.Fatalf("what was handed in became %s; it was %s", short(string(memory)), short(string(want)))
				}
			}
			wantOK(t, d.Write(1, b))
			same()
			wantDisk(t, d, laid{1, "", ahead + "abc"})
			if e := d.Write(-1, b); e != api.ErrArg {
				t.Errorf("Write(-1): %d; want 1", e)
			}
			same()
			c := d.Copy()
			wantWrite(t, d, 1, "def", api.OK)
			same()
			wantWrite(t, c, 1, "ghi", api.OK)
			same()
			c.Crash(uint64(len(ahead)) + 2)
			wantWrite(t, c, 1, "jkl", api.OK)
			same()
			scribble(b)
			wantDisk(t, d, laid{1, "", ahead + "abcdef"})
			wantDisk(t, c, laid{1, ahead + "ab", "jkl"})
		}
	}
}

// One list that is written to several files, and changed between, is in each as it was.
func TestWriteOfOneList(t *testing.T) {
	d := disk.New()
	b := []byte("a")
	for i := range 26 {
		b[0] = byte('a' + i)
		wantOK(t, d.Write(i, b))
		wantOK(t, d.Write(100, b))
	}
	b[0] = '-'
	for i := range 26 {
		wantFile(t, d, i, "", string(rune('a'+i)))
	}
	wantFile(t, d, 100, "", "abcdefghijklmnopqrstuvwxyz")
}

// What Read and Files tell is no memory of the disk's, of a copy's, nor of another answer's.
func TestAnswersAreApart(t *testing.T) {
	for _, n := range []int{1, 2, 3, 7, 8, 9, 31, 32, 33, 100, 1000} {
		d := disk.New()
		want := make([]byte, n)
		var numbers []int
		for i := range n {
			want[i] = byte(i)
			wantOK(t, d.Write(5, want[i:i+1]))
			wantOK(t, d.Write(1000+i, want[:1]))
			numbers = append(numbers, 1000+i)
		}
		numbers = append([]int{5}, numbers...)
		c := d.Copy()
		one, _ := d.Read(5)
		two, _ := d.Read(5)
		three, _ := c.Read(5)
		scribble(one)
		_ = append(one, "behind"...)
		for _, b := range [][]byte{two, three} {
			if !bytes.Equal(b, want) {
				t.Errorf("Read of %d: what was written over one answer is in another: %s", n, short(b))
			}
		}
		wantFile(t, d, 5, "", string(want))
		wantFile(t, c, 5, "", string(want))
		scribble(three)
		wantFile(t, d, 5, "", string(want))
		wantFile(t, c, 5, "", string(want))

		files, others := d.Files(), d.Files()
		for i := range files {
			files[i] = -7
		}
		_ = append(files, -8, -9)
		if !slices.Equal(others, numbers) || !slices.Equal(d.Files(), numbers) {
			t.Errorf("Files of %d: what was written over one answer is in another", n)
		}
	}
}

// What was told stays as it was, whatever is done then.
func TestAnswersStay(t *testing.T) {
	for name, deed := range deeds() {
		d := of(t, some()...)
		var read [][]byte
		for _, f := range some() {
			b, _ := d.Read(f.no)
			read = append(read, b)
		}
		files := d.Files()
		deed(d)
		deed(d)
		d.Crash(1)
		for _, f := range some() {
			d.Write(f.no, []byte("0123456789"))
		}
		for i, f := range some() {
			if string(read[i]) != f.sure+f.unsure {
				t.Errorf("%s: what was read became %s; it was %s", name, short(string(read[i])), f.sure+f.unsure)
			}
		}
		if !slices.Equal(files, []int{0, 1, 2, 3, greatest}) {
			t.Errorf("%s: what Files told became %v", name, files)
		}
	}
}

// Nothing lies behind the length of what is told, however it came to be written.
func TestNothingLiesBehind(t *testing.T) {
	drawn(t, 9, 200, func(r *rand.Rand) {
		d := disk.New()
		for i := range 1 + r.Intn(50) {
			d.Write(r.Intn(1+i), bytesOf(r, r.Intn(1+i*3)))
			if r.Intn(20) == 0 {
				d.Crash(anyDraw(r))
			}
			if r.Intn(20) == 0 {
				d = d.Copy()
			}
			files := d.Files()
			wantNoneBehind(t, "Files", len(files), cap(files))
			for _, no := range files {
				b, _ := d.Read(no)
				wantNoneBehind(t, "Read", len(b), cap(b))
			}
		}
	})
}

// held is how many bytes are held at all.
func held() uint64 {
	var m runtime.MemStats
	runtime.GC()
	runtime.ReadMemStats(&m)
	return m.HeapAlloc
}

// What was removed or lost is held no more, nor what was read or copied: of many million bytes next to none are left.
func TestNoMoreIsHeld(t *testing.T) {
	d := disk.New()
	great := make([]byte, 10000000)
	before := held()
	for no := range 20 {
		wantOK(t, d.Write(no, []byte("a")))
		wantOK(t, d.Sync(no))
		wantOK(t, d.Write(no, great))
		d.Read(no)
		d.Copy()
		if no%2 == 0 {
			wantOK(t, d.Remove(no))
			wantOK(t, d.Write(no, []byte("b")))
			wantOK(t, d.Sync(no))
			continue
		}
		d.Crash(uint64(len(great)) + 1 + 1)
	}
	if after := held(); after > before+5000000 {
		t.Errorf("%d bytes more are held", after-before)
	}
	for no := range 20 {
		if no%2 == 0 {
			wantFile(t, d, no, "b", "")
		} else {
			wantFile(t, d, no, "a\x00", "")
		}
	}
	runtime.KeepAlive(great)
}

// Nor is what a file once was, of one that came and went again and again.
func TestNoMoreFilesAreHeld(t *testing.T) {
	d := disk.New()
	before := held()
	for no := range 200000 {
		d.Write(no, []byte("abc"))
		if no%2 == 0 {
			d.Remove(no)
		} else {
			d.Crash(0)
		}
	}
	if after := held(); after > before+5000000 {
		t.Errorf("%d bytes more are held", after-before)
	}
	wantDisk(t, d)
}
