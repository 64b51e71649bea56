package disk_test

import (
	"testing"

	"telemeter/api"
	"telemeter/disk"
)

// A file that is not there is ErrNone, whatever its number: one that never was, was removed, was refused, or was taken by a crash.
func TestNotThere(t *testing.T) {
	for _, others := range [][]laid{{}, {{5, "ab", "c"}}, {{4, "", ""}, {5, "x", ""}, {6, "", "y"}}} {
		for _, no := range append(right(), wrong()...) {
			d := of(t, others...)
			wantNone(t, d, no)
			wantDisk(t, d, others...)
			if e := d.Write(no, []byte("abc")); e != api.OK {
				wantNone(t, d, no)
				wantDisk(t, d, others...)
				continue
			}
			wantOK(t, d.Remove(no))
			wantNone(t, d, no)
			wantDisk(t, d, others...)
		}
	}
	for _, no := range right() {
		for _, b := range []string{"", "abc"} {
			d := of(t, laid{no, "", b})
			d.Crash(0)
			wantNone(t, d, no)
			wantDisk(t, d)
			wantWrite(t, d, no, "d", api.OK)
			wantDisk(t, d, laid{no, "", "d"})
		}
	}
}

// Sync makes sure what is written, of that file alone, and not what is written behind it then.
func TestSync(t *testing.T) {
	for _, no := range right() {
		d := disk.New()
		wantWrite(t, d, no, "", api.OK)
		for range 2 {
			wantOK(t, d.Sync(no))
			wantDisk(t, d, laid{no, "", ""})
		}
		wantWrite(t, d, no, "abc", api.OK)
		wantDisk(t, d, laid{no, "", "abc"})
		for range 2 {
			wantOK(t, d.Sync(no))
			wantDisk(t, d, laid{no, "abc", ""})
		}
		wantWrite(t, d, no, "d", api.OK)
		wantDisk(t, d, laid{no, "abc", "d"})
		wantWrite(t, d, no, "e", api.OK)
		wantDisk(t, d, laid{no, "abc", "de"})
		wantOK(t, d.Sync(no))
		wantDisk(t, d, laid{no, "abcde", ""})
	}
	for i := range 4 {
		d := of(t, laid{0, "a", "bc"}, laid{1, "", "de"}, laid{2, "f", ""}, laid{3, "", ""})
		wantOK(t, d.Sync(i))
		want := []laid{{0, "a", "bc"}, {1, "", "de"}, {2, "f", ""}, {3, "", ""}}
		want[i] = laid{i, want[i].sure + want[i].unsure, ""}
		wantDisk(t, d, want...)
	}
}

// A file of no bytes that was synced is one of no bytes still: a crash takes it.
func TestSyncOfNothing(t *testing.T) {
	for _, draw := range draws() {
		d := of(t, laid{2, "", ""}, laid{3, "", ""}, laid{4, "a", ""})
		wantOK(t, d.Sync(2))
		wantDisk(t, d, laid{2, "", ""}, laid{3, "", ""}, laid{4, "a", ""})
		d.Crash(draw)
		wantNone(t, d, 2)
		wantNone(t, d, 3)
		wantDisk(t, d, laid{4, "a", ""})
	}
}

// Sure is what was synced, and what stayed; never what was written behind that.
func TestSure(t *testing.T) {
	d := disk.New()
	wantSure(t, d, 7, 0)
	wantWrite(t, d, 7, "abcd", api.OK)
	wantSure(t, d, 7, 0)
	wantOK(t, d.Sync(7))
	wantSure(t, d, 7, 4)
	wantWrite(t, d, 7, "efg", api.OK)
	wantSure(t, d, 7, 4)
	wantSure(t, d, 6, 0)
	wantSure(t, d, 8, 0)
	d.Crash(2)
	wantSure(t, d, 7, 6)
	wantWrite(t, d, 7, "hi", api.OK)
	wantSure(t, d, 7, 6)
	wantOK(t, d.Remove(7))
	wantSure(t, d, 7, 0)
	for _, no := range wrong() {
		wantSure(t, d, no, 0)
	}
}

// What is removed is gone at once: no crash brings it back, and what is written anew has nothing ahead of it, and nothing sure.
func TestRemove(t *testing.T) {
	for _, was := range []laid{{3, "", ""}, {3, "", "abc"}, {3, "abc", ""}, {3, "abc", "def"}} {
		for _, draw := range draws() {
			d := of(t, was, laid{2, "x", ""}, laid{4, "y", ""})
			wantOK(t, d.Remove(3))
			wantNone(t, d, 3)
			d.Crash(draw)
			wantNone(t, d, 3)
			wantDisk(t, d, laid{2, "x", ""}, laid{4, "y", ""})

			wantWrite(t, d, 3, "gh", api.OK)
			wantDisk(t, d, laid{2, "x", ""}, laid{3, "", "gh"}, laid{4, "y", ""})
			d.Crash(0)
			wantNone(t, d, 3)
			wantDisk(t, d, laid{2, "x", ""}, laid{4, "y", ""})

			wantWrite(t, d, 3, "ijk", api.OK)
			wantOK(t, d.Sync(3))
			wantOK(t, d.Remove(3))
			wantWrite(t, d, 3, "", api.OK)
			wantDisk(t, d, laid{2, "x", ""}, laid{3, "", ""}, laid{4, "y", ""})
		}
	}
}

// Each one of several is removed by itself.
func TestRemoveOfSeveral(t *testing.T) {
	all := []laid{{0, "a", "bc"}, {1, "", "de"}, {2, "f", ""}, {3, "", ""}, {greatest, "g", "h"}}
	for i := range all {
		for j := range all {
			if i == j {
				continue
			}
			d := of(t, all...)
			wantOK(t, d.Remove(all[i].no))
			wantNone(t, d, all[i].no)
			wantOK(t, d.Remove(all[j].no))
			wantNone(t, d, all[j].no)
			wantNone(t, d, all[i].no)
			var want []laid
			for k := range all {
				if k != i && k != j {
					want = append(want, all[k])
				}
			}
			wantDisk(t, d, want...)
		}
	}
}
