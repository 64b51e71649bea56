package disk_test

import (
	"math"
	"slices"
	"testing"

	"telemeter/api"
	"telemeter/disk"
)

func some() []laid {
	return []laid{{0, "ab", "cd"}, {1, "", "ef"}, {2, "gh", ""}, {3, "", ""}, {greatest, "i", "jklm"}}
}

// deeds are what may be done to a disk, each by itself, and what of some() is left by it.
func deeds() map[string]func(d *disk.Disk) []laid {
	return map[string]func(d *disk.Disk) []laid{
		"nothing": func(d *disk.Disk) []laid { return some() },
		"Write": func(d *disk.Disk) []laid {
			d.Write(0, []byte("xyz"))
			return with(laid{0, "ab", "cdxyz"})
		},
		"Write of all": func(d *disk.Disk) []laid {
			for _, f := range some() {
				d.Write(f.no, []byte("w"))
			}
			return []laid{{0, "ab", "cdw"}, {1, "", "efw"}, {2, "gh", "w"}, {3, "", "w"}, {greatest, "i", "jklmw"}}
		},
		"Write of a new one": func(d *disk.Disk) []laid {
			d.Write(9, []byte("n"))
			return with(laid{9, "", "n"})
		},
		"Sync": func(d *disk.Disk) []laid {
			d.Sync(1)
			return with(laid{1, "ef", ""})
		},
		"Remove": func(d *disk.Disk) []laid {
			d.Remove(0)
			return some()[1:]
		},
		"Remove of all": func(d *disk.Disk) []laid {
			for _, f := range some() {
				d.Remove(f.no)
			}
			return nil
		},
		"Remove, and Write": func(d *disk.Disk) []laid {
			d.Remove(0)
			d.Write(0, []byte("AB"))
			return with(laid{0, "", "AB"})
		},
		"Crash 0": func(d *disk.Disk) []laid {
			d.Crash(0)
			return []laid{{0, "ab", ""}, {2, "gh", ""}, {greatest, "i", ""}}
		},
		"Crash 0, and Write": func(d *disk.Disk) []laid {
			d.Crash(0)
			d.Write(0, []byte("CD"))
			d.Write(greatest, []byte("JKLM"))
			return []laid{{0, "ab", "CD"}, {2, "gh", ""}, {greatest, "i", "JKLM"}}
		},
		"Crash that leaves all": func(d *disk.Disk) []laid {
			d.Crash(2 + 3*2 + 9*4)
			return []laid{{0, "abcd", ""}, {1, "ef", ""}, {2, "gh", ""}, {greatest, "ijklm", ""}}
		},
		"Crash of the greatest draw": func(d *disk.Disk) []laid {
			d.Crash(math.MaxUint64) // a 45-fold and 15: 0, then 2, then 1
			return []laid{{0, "ab", ""}, {1, "ef", ""}, {2, "gh", ""}, {greatest, "ij", ""}}
		},
	}
}

// with are some(), with one of that number in its place.
func with(f laid) []laid {
	all := slices.DeleteFunc(some(), func(x laid) bool { return x.no == f.no })
	return append(all, f)
}

// A copy is the same: each thing that is done to it does what it does to the first.
func TestCopy(t *testing.T) {
	for name, deed := range deeds() {
		d := of(t, some()...).Copy()
		wantDisk(t, d, some()...)
		want := deed(d)
		wantDisk(t, d, want...)
		if t.Failed() {
			t.Fatal(name)
		}
	}
	c := disk.New().Copy()
	wantDisk(t, c)
	wantWrite(t, c, 1, "a", api.OK)
	wantDisk(t, c, laid{1, "", "a"})
}

// Whatever is done to one, the other does not know it, nor does one that is no copy; and what is done to that then is its own.
func TestCopiesAreApart(t *testing.T) {
	for name, deed := range deeds() {
		for other, second := range deeds() {
			for turn := range 4 {
				first := of(t, some()...)
				apart := of(t, some()...)
				copied := first.Copy()
				again := copied.Copy()
				if turn%2 == 1 {
					first, copied = copied, first
				}
				if turn > 1 {
					copied, again = again, copied
				}
				want := deed(first)
				wantDisk(t, first, want...)
				for _, d := range []*disk.Disk{copied, again, apart} {
					wantDisk(t, d, some()...)
				}
				wanted := second(copied)
				wantDisk(t, copied, wanted...)
				wantDisk(t, first, want...)
				wantDisk(t, again, some()...)
				wantDisk(t, apart, some()...)
				if t.Failed() {
					t.Fatalf("%s, and then %s of the other one", name, other)
				}
			}
		}
	}
}

// A copy of one of which much was written, and lost: both write where the other does.
func TestBothWrite(t *testing.T) {
	for _, n := range []int{0, 1, 3, 7, 8, 15, 16, 31, 100, 1000} {
		first := disk.New()
		var want []byte
		for i := range n {
			first.Write(1, []byte{byte(i)})
			want = append(want, byte(i))
		}
		if n == 0 {
			first.Write(1, nil)
		}
		second := first.Copy()
		first.Write(1, []byte("first"))
		second.Write(1, []byte("other"))
		third := second.Copy()
		second.Write(1, []byte("2"))
		third.Write(1, []byte("3"))
		wantDisk(t, first, laid{1, "", string(want) + "first"})
		wantDisk(t, second, laid{1, "", string(want) + "other2"})
		wantDisk(t, third, laid{1, "", string(want) + "other3"})
		first.Crash(uint64(n))
		first.Write(1, []byte("X"))
		wantDisk(t, first, laid{1, string(want), "X"})
		wantDisk(t, second, laid{1, "", string(want) + "other2"})
	}
}

// Copies of copies are as the one that was copied was then.
func TestCopyOfThen(t *testing.T) {
	d := disk.New()
	var all []*disk.Disk
	for i := range 20 {
		wantWrite(t, d, 1, "x", api.OK)
		if i%5 == 4 {
			wantOK(t, d.Sync(1))
		}
		all = append(all, d.Copy())
		d = d.Copy()
	}
	for i, c := range all {
		sure := (i + 1) / 5 * 5
		wantDisk(t, c, laid{1, "xxxxxxxxxxxxxxxxxxxx"[:sure], "xxxxxxxxxxxxxxxxxxxx"[:i+1-sure]})
	}
}
