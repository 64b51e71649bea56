package disk_test

import (
	"math/rand"
	"slices"
	"strings"
	"testing"

	"telemeter/api"
	"telemeter/disk"
)

// The chapter's example.
func TestExample(t *testing.T) {
	d := disk.New()
	wantWrite(t, d, 0, "\x01\x02", api.OK)
	wantOK(t, d.Sync(0))
	wantWrite(t, d, 0, "\x03\x04\x05", api.OK)
	wantDisk(t, d, laid{0, "\x01\x02", "\x03\x04\x05"})
	d.Crash(6)
	wantDisk(t, d, laid{0, "\x01\x02\x03\x04", ""})
}

// A new disk has no files, whatever is asked of it.
func TestNew(t *testing.T) {
	if disk.New() == nil {
		t.Fatal("New: nil")
	}
	for _, no := range append(right(), wrong()...) {
		d := disk.New()
		wantFiles(t, d)
		wantNone(t, d, no)
		d.Crash(uint64(no))
		wantNone(t, d, no)
		wantFiles(t, d)
	}
}

// A number that no file may have is ErrArg, of any bytes, and changes nothing.
func TestWriteWrong(t *testing.T) {
	for _, no := range wrong() {
		for _, b := range []string{"", "a", "abc", strings.Repeat("x", 5000)} {
			d := disk.New()
			wantWrite(t, d, no, b, api.ErrArg)
			wantNone(t, d, no)
			wantDisk(t, d)

			files := []laid{{0, "ab", "c"}, {7, "", ""}, {greatest, "", "d"}}
			d = of(t, files...)
			wantWrite(t, d, no, b, api.ErrArg)
			wantNone(t, d, no)
			wantDisk(t, d, files...)
		}
	}
}

// Each number that a file may have is one by itself: none is taken for another.
func TestWriteRight(t *testing.T) {
	d := disk.New()
	var want []laid
	for i, no := range right() {
		wantNone(t, d, no)
		f := laid{no, strings.Repeat("s", i%3), strings.Repeat("u", i%4) + string(rune('a'+i))}
		if f.sure != "" {
			wantWrite(t, d, no, f.sure, api.OK)
			wantOK(t, d.Sync(no))
		}
		wantWrite(t, d, no, f.unsure, api.OK)
		want = append(want, f)
		wantDisk(t, d, want...)
	}
	for i, no := range right() {
		wantOK(t, d.Remove(no))
		wantNone(t, d, no)
		wantDisk(t, d, want[i+1:]...)
	}
}

// Around both ends each number is right or wrong.
func TestWriteEach(t *testing.T) {
	for _, end := range []int{0, greatest} {
		for no := end - 200; no <= end+200; no++ {
			d := disk.New()
			want := api.OK
			if no < 0 || no > greatest {
				want = api.ErrArg
			}
			wantWrite(t, d, no, "a", want)
			if want == api.OK {
				wantDisk(t, d, laid{no, "", "a"})
			} else {
				wantDisk(t, d)
			}
		}
	}
}

// Of no bytes: a file that was not there is there then, and has none; one that is there has those it had.
func TestWriteOfNothing(t *testing.T) {
	for _, b := range [][]byte{nil, {}, []byte("abc")[:0], []byte("abc")[3:], make([]byte, 0, 100)} {
		for _, no := range right() {
			d := disk.New()
			for range 3 {
				wantOK(t, d.Write(no, b))
				wantDisk(t, d, laid{no, "", ""})
			}
			wantOK(t, d.Sync(no))
			wantDisk(t, d, laid{no, "", ""})
			wantWrite(t, d, no, "xyz", api.OK)
			wantOK(t, d.Write(no, b))
			wantDisk(t, d, laid{no, "", "xyz"})
			wantOK(t, d.Sync(no))
			wantOK(t, d.Write(no, b))
			wantDisk(t, d, laid{no, "xyz", ""})
			wantWrite(t, d, no, "v", api.OK)
			wantOK(t, d.Write(no, b))
			wantDisk(t, d, laid{no, "xyz", "v"})
		}
	}
}

// What is written comes behind what is there, also behind a Sync, and leaves all other files as they are.
func TestWriteBehind(t *testing.T) {
	d := of(t, laid{3, "a", "b"}, laid{1, "", "c"}, laid{2, "d", ""})
	wantWrite(t, d, 1, "e", api.OK)
	wantWrite(t, d, 2, "fg", api.OK)
	wantWrite(t, d, 3, "h", api.OK)
	wantDisk(t, d, laid{3, "a", "bh"}, laid{1, "", "ce"}, laid{2, "d", "fg"})
	wantOK(t, d.Sync(2))
	wantDisk(t, d, laid{3, "a", "bh"}, laid{1, "", "ce"}, laid{2, "dfg", ""})
	wantWrite(t, d, 2, "ij", api.OK)
	wantWrite(t, d, 2, "k", api.OK)
	wantDisk(t, d, laid{3, "a", "bh"}, laid{1, "", "ce"}, laid{2, "dfg", "ijk"})
	wantOK(t, d.Sync(3))
	wantOK(t, d.Sync(1))
	wantDisk(t, d, laid{3, "abh", ""}, laid{1, "ce", ""}, laid{2, "dfg", "ijk"})
}

// All bytes there are, and more and more of them, come out as they went in.
func TestWriteOfMany(t *testing.T) {
	drawn(t, 1, 20, func(r *rand.Rand) {
		d := disk.New()
		want := map[int][]byte{}
		for i := range 300 {
			no := r.Intn(4)
			b := bytesOf(r, r.Intn(1+i*3))
			wantOK(t, d.Write(no, b))
			want[no] = append(want[no], b...)
			wantFile(t, d, no, "", string(want[no]))
		}
		for no, b := range want {
			wantFile(t, d, no, "", string(b))
			wantOK(t, d.Sync(no))
			wantFile(t, d, no, string(b), "")
		}
	})
	all := make([]byte, 256)
	for i := range all {
		all[i] = byte(i)
	}
	d := of(t, laid{0, string(all), string(all)})
	wantDisk(t, d, laid{0, string(all), string(all)})
	d.Crash(128)
	wantDisk(t, d, laid{0, string(all) + string(all[:128]), ""})
}

// Files are told by rising numbers, each once, in whatever order they were written, and however often.
func TestFiles(t *testing.T) {
	for _, all := range [][]int{{}, {0}, {greatest}, {5, 3}, {0, 1, greatest}, {9, 10, 100, 11}, {1 << 32, 1<<32 - 1, 0, 1 << 8, 1 << 16}} {
		orders(len(all), func(places []int) {
			d := disk.New()
			var there []int
			for i, place := range places {
				wantWrite(t, d, all[place], strings.Repeat("x", i%3), api.OK)
				wantWrite(t, d, all[places[0]], "y", api.OK)
				there = append(there, all[place])
				slices.Sort(there)
				for range 2 {
					wantFiles(t, d, there...)
				}
			}
			for _, no := range slices.Clone(there) {
				wantOK(t, d.Remove(no))
				there = there[1:]
				wantFiles(t, d, there...)
			}
		})
	}
}

func TestFilesOfMany(t *testing.T) {
	drawn(t, 2, 10, func(r *rand.Rand) {
		d := disk.New()
		var want []int
		for _, i := range r.Perm(2000) {
			no := i * i * i
			wantWrite(t, d, no, "x", api.OK)
			want = append(want, no)
		}
		slices.Sort(want)
		wantFiles(t, d, want...)
	})
}
