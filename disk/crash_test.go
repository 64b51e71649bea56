package disk_test

import (
	"math"
	"math/rand"
	"slices"
	"strconv"
	"strings"
	"testing"

	"telemeter/api"
	"telemeter/disk"
)

// Of one file: so many of what is not sure stay as the draw leaves, divided by one more than these.
func TestCrashOfOne(t *testing.T) {
	for _, c := range []struct {
		sure, unsure string
		draw         uint64
		want         string
	}{
		{"", "a", 0, ""}, {"", "a", 1, "a"}, {"", "a", 2, ""}, {"", "a", 3, "a"},
		{"", "abc", 0, ""}, {"", "abc", 1, "a"}, {"", "abc", 2, "ab"}, {"", "abc", 3, "abc"}, {"", "abc", 4, ""}, {"", "abc", 5, "a"}, {"", "abc", 7, "abc"}, {"", "abc", 8, ""},
		{"ab", "", 0, "ab"}, {"ab", "", 1, "ab"}, {"ab", "", math.MaxUint64, "ab"},
		{"ab", "cde", 0, "ab"}, {"ab", "cde", 1, "abc"}, {"ab", "cde", 2, "abcd"}, {"ab", "cde", 3, "abcde"}, {"ab", "cde", 4, "ab"}, {"ab", "cde", 5, "abc"}, {"ab", "cde", 6, "abcd"},
		{"a", "bcdef", math.MaxUint64, "abcd"}, // 2^64 - 1 is a 6-fold and 3
		{"a", "bcde", math.MaxUint64, "a"},     // and a 5-fold
		{"a", "bcde", math.MaxUint64 - 1, "abcde"},
		{"a", "b", math.MaxUint64, "ab"}, {"a", "b", math.MaxUint64 - 1, "a"}, {"a", "b", 1 << 63, "a"}, {"a", "b", 1<<63 - 1, "ab"},
		{"a", "bcdefg", 1 << 63, "ab"}, {"a", "bcdefg", 1<<63 + 5, "abcdefg"}, {"a", "bcdefg", 1<<63 + 6, "a"}, // 2^63 is a 7-fold and 1
	} {
		for _, no := range right() {
			d := of(t, laid{no, c.sure, c.unsure})
			d.Crash(c.draw)
			if c.want == "" {
				wantNone(t, d, no)
				wantDisk(t, d)
				continue
			}
			wantDisk(t, d, laid{no, c.want, ""})
		}
	}
}

// A draw of 0, of u, and of u + 1, of files of many bytes: none of what is not sure stays, all of it, and none again.
func TestCrashAboutAll(t *testing.T) {
	for _, sure := range []int{0, 1, 2, 100} {
		for _, u := range []int{1, 2, 3, 9, 255, 256, 4095, 4096, 70000} {
			for turn, want := range map[int]int{0: 0, 1: 1, u - 1: u - 1, u: u, u + 1: 0, u + 2: 1, 2*u + 1: u, 2*u + 2: 0} {
				d := of(t, laid{1, strings.Repeat("s", sure), strings.Repeat("u", u)})
				d.Crash(uint64(turn))
				if sure+want == 0 {
					wantNone(t, d, 1)
					continue
				}
				wantDisk(t, d, laid{1, strings.Repeat("s", sure) + strings.Repeat("u", want), ""})
			}
		}
	}
}

// Of no file a crash leaves none, by each draw.
func TestCrashOfNone(t *testing.T) {
	for _, draw := range draws() {
		d := disk.New()
		for range 3 {
			d.Crash(draw)
			wantDisk(t, d)
		}
		wantWrite(t, d, 1, "ab", api.OK)
		wantDisk(t, d, laid{1, "", "ab"})
	}
}

// Several files, in each order in which they may be written: the draw goes by rising numbers.
func TestCrashGoesByNumbers(t *testing.T) {
	files := []laid{{0, "a", "bc"}, {9, "", "defg"}, {10, "h", ""}, {100, "", "i"}, {greatest, "jk", "lm"}}
	for _, c := range []struct {
		draw uint64
		want []laid
	}{
		{0, []laid{{0, "a", ""}, {10, "h", ""}, {greatest, "jk", ""}}},
		{1, []laid{{0, "ab", ""}, {10, "h", ""}, {greatest, "jk", ""}}},
		{2, []laid{{0, "abc", ""}, {10, "h", ""}, {greatest, "jk", ""}}},
		{3, []laid{{0, "a", ""}, {9, "d", ""}, {10, "h", ""}, {greatest, "jk", ""}}},
		{14, []laid{{0, "abc", ""}, {9, "defg", ""}, {10, "h", ""}, {greatest, "jk", ""}}},
		{15, []laid{{0, "a", ""}, {10, "h", ""}, {100, "i", ""}, {greatest, "jk", ""}}},
		{30, []laid{{0, "a", ""}, {10, "h", ""}, {greatest, "jkl", ""}}},
		{1 + 3*2 + 15*1 + 30*2, []laid{{0, "ab", ""}, {9, "de", ""}, {10, "h", ""}, {100, "i", ""}, {greatest, "jklm", ""}}},
		{89, []laid{{0, "abc", ""}, {9, "defg", ""}, {10, "h", ""}, {100, "i", ""}, {greatest, "jklm", ""}}},
		{90, []laid{{0, "a", ""}, {10, "h", ""}, {greatest, "jk", ""}}},                             // what the last one leaves counts for nothing
		{math.MaxUint64, []laid{{0, "a", ""}, {10, "h", ""}, {100, "i", ""}, {greatest, "jk", ""}}}, // 2^64 - 1 is a 90-fold and 15
		{math.MaxUint64 - 15, []laid{{0, "a", ""}, {10, "h", ""}, {greatest, "jk", ""}}},
		{math.MaxUint64 - 16, []laid{{0, "abc", ""}, {9, "defg", ""}, {10, "h", ""}, {100, "i", ""}, {greatest, "jklm", ""}}},
	} {
		orders(len(files), func(places []int) {
			d := disk.New()
			for _, i := range places {
				wantWrite(t, d, files[i].no, files[i].sure, api.OK)
			}
			for _, i := range places {
				wantOK(t, d.Sync(files[i].no))
			}
			for _, i := range places {
				wantWrite(t, d, files[i].no, files[i].unsure, api.OK)
			}
			d.Crash(c.draw)
			wantDisk(t, d, c.want...)
		})
	}
}

// stays is how many bytes of each file stay: what a draw says, worked out as a number is written, its last digit first.
func stays(draw uint64, unsure []int) []int {
	var all []int
	weight := uint64(1) // of the place
	for _, u := range unsure {
		all = append(all, int(draw/weight%uint64(u+1)))
		weight *= uint64(u + 1)
	}
	return all
}

// Each disk of three small files, by each draw: all ways to lose are there, each once, and begin again then.
func TestCrashByEachDraw(t *testing.T) {
	drawn(t, 3, 120, func(r *rand.Rand) {
		sure := []int{r.Intn(3), r.Intn(3), r.Intn(3)}
		unsure := []int{r.Intn(4), r.Intn(4), r.Intn(4)}
		ways := (unsure[0] + 1) * (unsure[1] + 1) * (unsure[2] + 1)
		seen := map[string]int{}
		for draw := range 2*ways + 3 {
			d := disk.New()
			for _, i := range r.Perm(3) {
				wantWrite(t, d, 5*i, "xyz"[:sure[i]], api.OK)
				wantOK(t, d.Sync(5*i))
				wantWrite(t, d, 5*i, "abcd"[:unsure[i]], api.OK)
			}
			d.Crash(uint64(draw))
			var want []laid
			way := ""
			for i, n := range stays(uint64(draw), unsure) {
				way += strconv.Itoa(n)
				if sure[i]+n > 0 {
					want = append(want, laid{5 * i, "xyz"[:sure[i]] + "abcd"[:n], ""})
				}
			}
			wantDisk(t, d, want...)
			if draw < ways {
				seen[way]++
			}
		}
		if len(seen) != ways {
			t.Errorf("%d ways to lose; want %d", len(seen), ways)
		}
	})
}

// A file of which all is sure uses up nothing of the draw, wherever it stands, nor does one of no bytes.
func TestSureFilesUseUpNothing(t *testing.T) {
	for _, draw := range draws() {
		want := of(t, laid{10, "", "abcd"}, laid{20, "ef", "ghi"}, laid{30, "", "jk"})
		want.Crash(draw)
		for _, no := range []int{0, 9, 11, 15, 21, 29, 31, greatest} {
			for _, f := range []laid{{no, "x", ""}, {no, strings.Repeat("x", 1000), ""}, {no, "", ""}} {
				d := of(t, laid{10, "", "abcd"}, laid{20, "ef", "ghi"}, laid{30, "", "jk"}, f)
				d.Crash(draw)
				if f.sure != "" {
					wantFile(t, d, no, f.sure, "")
					wantOK(t, d.Remove(no))
				}
				wantNone(t, d, no)
				if !slices.Equal(d.Files(), want.Files()) {
					t.Errorf("Crash(%d), beside a file %d: %v; want %v", draw, no, d.Files(), want.Files())
				}
				for _, other := range want.Files() {
					b, _ := want.Read(other)
					wantFile(t, d, other, string(b), "")
				}
			}
		}
	}
}

// All that stays is sure, so that a crash behind it loses nothing, and one behind more that was written only of that.
func TestCrashBehindCrash(t *testing.T) {
	for _, second := range draws() {
		d := of(t, laid{1, "a", "bcd"}, laid{2, "", "ef"}, laid{3, "", "g"})
		d.Crash(2 + 4*1)
		for range 3 {
			wantDisk(t, d, laid{1, "abc", ""}, laid{2, "e", ""})
			d.Crash(second)
		}
		wantWrite(t, d, 1, "xyz", api.OK)
		wantWrite(t, d, 3, "v", api.OK)
		wantDisk(t, d, laid{1, "abc", "xyz"}, laid{2, "e", ""}, laid{3, "", "v"})
		c := d.Copy()
		c.Crash(0)
		wantDisk(t, c, laid{1, "abc", ""}, laid{2, "e", ""})
		c = d.Copy()
		c.Crash(1)
		wantDisk(t, c, laid{1, "abcx", ""}, laid{2, "e", ""})
		d.Crash(7)
		wantDisk(t, d, laid{1, "abcxyz", ""}, laid{2, "e", ""}, laid{3, "v", ""})
	}
}

// What is written behind a crash comes behind what stayed: what was lost is not there again.
func TestWriteBehindCrash(t *testing.T) {
	d := of(t, laid{1, "ab", "cdefgh"})
	d.Crash(1)
	wantWrite(t, d, 1, "", api.OK)
	wantDisk(t, d, laid{1, "abc", ""})
	wantWrite(t, d, 1, "X", api.OK)
	wantDisk(t, d, laid{1, "abc", "X"})
	wantOK(t, d.Sync(1))
	wantDisk(t, d, laid{1, "abcX", ""})
	d.Crash(math.MaxUint64)
	wantDisk(t, d, laid{1, "abcX", ""})
}

// Great draws over many files, against the words.
func TestCrashOfMany(t *testing.T) {
	drawn(t, 4, 60, func(r *rand.Rand) {
		p := newPair()
		n := 1 + r.Intn(40)
		for _, i := range r.Perm(n) {
			p.write(t, i*i, bytesOf(r, r.Intn(4)))
			if r.Intn(2) == 0 {
				p.sync(t, i*i)
			}
			p.write(t, i*i, bytesOf(r, r.Intn(4)))
		}
		for range 4 {
			p.copied().crash(t, anyDraw(r))
			p.copied().crash(t, r.Uint64())
		}
		p.crash(t, r.Uint64())
	})
}
