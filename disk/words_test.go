package disk_test

import (
	"bytes"
	"fmt"
	"math"
	"math/big"
	"math/rand"
	"slices"
	"sort"
	"testing"

	"telemeter/api"
	"telemeter/disk"
)

// What the chapter words, written another way than the program is: the tests hold one against the other.

const greatest = 1099511627776 // 2^40

// one is a byte that was written: of which file, and whether it is sure.
type one struct {
	no   int
	b    byte
	sure bool
}

// byWords is a plain list of the files that are there, and one of all bytes, in the order in which they were written.
type byWords struct {
	there []int
	all   []one
}

func (w *byWords) is(no int) bool {
	return slices.Contains(w.there, no)
}

func (w *byWords) write(no int, b []byte) api.Errno {
	if !(0 <= no && no <= greatest) {
		return 1
	}
	if !w.is(no) {
		w.there = append(w.there, no)
	}
	for _, x := range b {
		w.all = append(w.all, one{no, x, false})
	}
	return 0
}

func (w *byWords) sync(no int) api.Errno {
	if !w.is(no) {
		return 71
	}
	for i := range w.all {
		if w.all[i].no == no {
			w.all[i].sure = true
		}
	}
	return 0
}

func (w *byWords) remove(no int) api.Errno {
	if !w.is(no) {
		return 71
	}
	w.there = slices.DeleteFunc(w.there, func(n int) bool { return n == no })
	w.all = slices.DeleteFunc(w.all, func(x one) bool { return x.no == no })
	return 0
}

func (w *byWords) files() []int {
	l := slices.Clone(w.there)
	sort.Ints(l)
	return l
}

func (w *byWords) read(no int) ([]byte, api.Errno) {
	if !w.is(no) {
		return nil, 71
	}
	var b []byte
	for _, x := range w.all {
		if x.no == no {
			b = append(b, x.b)
		}
	}
	return b, 0
}

func (w *byWords) sure(no int) int {
	n := 0
	for _, x := range w.all {
		if x.no == no && x.sure {
			n++
		}
	}
	return n
}

// crash divides by great numbers, and goes through all bytes once for each file.
func (w *byWords) crash(draw uint64) {
	left := new(big.Int).SetUint64(draw)
	for _, no := range w.files() {
		b, _ := w.read(no)
		u := int64(len(b) - w.sure(no))
		stay := new(big.Int)
		left.DivMod(left, big.NewInt(u+1), stay)
		var all []one
		for _, x := range w.all {
			if x.no == no && !x.sure {
				if stay.Sign() == 0 {
					continue
				}
				stay.Sub(stay, big.NewInt(1))
				x.sure = true
			}
			all = append(all, x)
		}
		w.all = all
		if b, _ := w.read(no); len(b) == 0 {
			w.remove(no)
		}
	}
}

func (w *byWords) copied() *byWords {
	return &byWords{there: slices.Clone(w.there), all: slices.Clone(w.all)}
}

// pair is a disk, and what the words have it hold.
type pair struct {
	d *disk.Disk
	w *byWords
}

func newPair() *pair {
	return &pair{disk.New(), &byWords{}}
}

func (p *pair) write(t *testing.T, no int, b []byte) {
	t.Helper()
	if e, want := p.d.Write(no, b), p.w.write(no, b); e != want {
		t.Fatalf("Write(%d, %s): %d; want %d", no, short(b), e, want)
	}
	p.look(t, no)
}

func (p *pair) sync(t *testing.T, no int) {
	t.Helper()
	if e, want := p.d.Sync(no), p.w.sync(no); e != want {
		t.Fatalf("Sync(%d): %d; want %d", no, e, want)
	}
	p.look(t, no)
}

func (p *pair) remove(t *testing.T, no int) {
	t.Helper()
	if e, want := p.d.Remove(no), p.w.remove(no); e != want {
		t.Fatalf("Remove(%d): %d; want %d", no, e, want)
	}
	p.look(t, no)
}

func (p *pair) crash(t *testing.T, draw uint64) {
	t.Helper()
	before := p.w.files()
	p.d.Crash(draw)
	p.w.crash(draw)
	p.look(t, before...)
}

func (p *pair) copied() *pair {
	return &pair{p.d.Copy(), p.w.copied()}
}

// look asks for what changes nothing: of all files that are there, and of others.
func (p *pair) look(t *testing.T, others ...int) {
	t.Helper()
	got, want := p.d.Files(), p.w.files()
	if !slices.Equal(got, want) {
		t.Fatalf("Files: %s; want %s", short(got), short(want))
	}
	wantNoneBehind(t, "Files", len(got), cap(got))
	for _, no := range append(append(want, -1, 0, 1, greatest, greatest+1), others...) {
		want, wanted := p.w.read(no)
		got, e := p.d.Read(no)
		if !bytes.Equal(got, want) || e != wanted {
			t.Fatalf("Read(%d): %s, %d; want %s, %d", no, short(got), e, short(want), wanted)
		}
		wantNoneBehind(t, "Read", len(got), cap(got))
		wantSure(t, p.d, no, p.w.sure(no))
	}
}

func wantNoneBehind(t *testing.T, name string, n, room int) {
	t.Helper()
	if n != room {
		t.Errorf("%s: %d lie behind the %d that are told", name, room-n, n)
	}
}

// short is a text of what may be long.
func short(x any) string {
	return fmt.Sprintf("%.300s", fmt.Sprintf("%+v", x))
}

func wantOK(t *testing.T, e api.Errno) {
	t.Helper()
	if e != api.OK {
		t.Errorf("an error: %d; want none", e)
	}
}

func wantWrite(t *testing.T, d *disk.Disk, no int, b string, want api.Errno) {
	t.Helper()
	if e := d.Write(no, []byte(b)); e != want {
		t.Errorf("Write(%d, %s): %d; want %d", no, short(b), e, want)
	}
}

func wantFiles(t *testing.T, d *disk.Disk, want ...int) {
	t.Helper()
	if got := d.Files(); !slices.Equal(got, want) {
		t.Errorf("Files: %s; want %s", short(got), short(want))
	}
}

// wantFile: it is there with these bytes, the first of which are sure.
func wantFile(t *testing.T, d *disk.Disk, no int, sure, unsure string) {
	t.Helper()
	if b, e := d.Read(no); string(b) != sure+unsure || e != api.OK {
		t.Errorf("Read(%d): %s, %d; want %s, 0", no, short(string(b)), e, short(sure+unsure))
	}
	wantSure(t, d, no, len(sure))
	if !slices.Contains(d.Files(), no) {
		t.Errorf("Files: %s; want %d to be one of them", short(d.Files()), no)
	}
}

// wantNone: it is not there, so that no call finds it, and none that asks for it lets it begin.
func wantNone(t *testing.T, d *disk.Disk, no int) {
	t.Helper()
	for range 2 {
		if b, e := d.Read(no); len(b) != 0 || e != api.ErrNone {
			t.Errorf("Read(%d): %s, %d; want nothing, 71", no, short(b), e)
		}
		if e := d.Sync(no); e != api.ErrNone {
			t.Errorf("Sync(%d): %d; want 71", no, e)
		}
		if e := d.Remove(no); e != api.ErrNone {
			t.Errorf("Remove(%d): %d; want 71", no, e)
		}
		wantSure(t, d, no, 0)
		if slices.Contains(d.Files(), no) {
			t.Errorf("Files: %s; want %d to be none of them", short(d.Files()), no)
		}
	}
}

func wantSure(t *testing.T, d *disk.Disk, no, want int) {
	t.Helper()
	if got := d.Sure(no); got != want {
		t.Errorf("Sure(%d): %d; want %d", no, got, want)
	}
}

// laid is a file for a disk: what of it is sure, and what is written behind that.
type laid struct {
	no           int
	sure, unsure string
}

// of is a disk with these files, written in this order.
func of(t *testing.T, files ...laid) *disk.Disk {
	t.Helper()
	d := disk.New()
	for _, f := range files {
		wantWrite(t, d, f.no, f.sure, api.OK)
		if f.sure != "" {
			wantOK(t, d.Sync(f.no))
		}
		wantWrite(t, d, f.no, f.unsure, api.OK)
	}
	return d
}

// wantDisk: these files are there, and no others.
func wantDisk(t *testing.T, d *disk.Disk, want ...laid) {
	t.Helper()
	if got := d.Files(); len(got) != len(want) {
		t.Errorf("Files: %s; want %d", short(got), len(want))
	}
	for _, f := range want {
		wantFile(t, d, f.no, f.sure, f.unsure)
	}
}

// wrong are the numbers, the least and the greatest among them, that no file may have.
func wrong() []int {
	return []int{
		math.MinInt, math.MinInt + 1, -1 << 41, -1<<40 - 1, -1 << 40, math.MinInt32 - 1, math.MinInt32, -2, -1,
		1<<40 + 1, 1<<40 + 2, 1 << 41, 1<<41 - 1, 1 << 62, math.MaxInt - 1, math.MaxInt,
	}
}

// right are those about which numbers have a digit more, and the least and the greatest that a file may have.
func right() []int {
	return []int{
		0, 1, 2, 9, 10, 255, 256, math.MaxInt16, math.MaxUint16, math.MaxUint16 + 1,
		math.MaxInt32, math.MaxInt32 + 1, math.MaxUint32, math.MaxUint32 + 1, 1<<40 - 2, 1<<40 - 1, 1 << 40,
	}
}

// draws are the least and the greatest, and those about which one has a digit more.
func draws() []uint64 {
	return []uint64{
		0, 1, 2, 3, 4, 5, 6, 7, 8, 10, 100, math.MaxInt32, math.MaxInt32 + 1, math.MaxUint32, math.MaxUint32 + 1,
		math.MaxInt64 - 1, math.MaxInt64, math.MaxInt64 + 1, math.MaxUint64 - 2, math.MaxUint64 - 1, math.MaxUint64,
	}
}

// anyDraw is small as often as great.
func anyDraw(r *rand.Rand) uint64 {
	if r.Intn(4) == 0 {
		return draws()[r.Intn(len(draws()))]
	}
	return r.Uint64() >> r.Intn(64)
}

// bytesOf are so many, drawn.
func bytesOf(r *rand.Rand, n int) []byte {
	b := make([]byte, n)
	r.Read(b)
	return b
}

// drawn stops when something has failed: much more would be told of the same fault.
func drawn(t *testing.T, seed int64, times int, f func(r *rand.Rand)) {
	r := rand.New(rand.NewSource(seed))
	for i := 0; i < times && !t.Failed(); i++ {
		f(r)
	}
}

// orders tells each order of so many places.
func orders(n int, visit func(places []int)) {
	var lay func(done []int)
	lay = func(done []int) {
		if len(done) == n {
			visit(done)
			return
		}
		for i := range n {
			if !slices.Contains(done, i) {
				lay(append(slices.Clone(done), i))
			}
		}
	}
	lay(nil)
}
