package spool_test

import (
	"bytes"
	"encoding/binary"
	"fmt"
	"hash/crc32"
	"math"
	"math/rand"
	"slices"
	"sort"
	"testing"

	"telemeter/api"
	"telemeter/disk"
	"telemeter/spool"
)

// What the chapter words, written another way than the program is: the tests hold one against the other.

const (
	greatest = 1099511627776 // 2^40
	long     = 1048576       // 2^20: the most bytes of a segment
	isBatch  = 1
	isDone   = 2
	begins   = 3
)

// framed is bytes with their length and check ahead, by the library's ways.
func framed(b string) string {
	f := binary.AppendUvarint(nil, uint64(len(b)))
	f = binary.BigEndian.AppendUint32(f, crc32.ChecksumIEEE([]byte(b)))
	return string(f) + b
}

// rec is a record as it stands in a file: a kind, a number, and what stands behind.
func rec(kind byte, no uint64, data string) string {
	return framed(string(binary.AppendUvarint([]byte{kind}, no)) + data)
}

func batch(no uint64, data string) string { return rec(isBatch, no, data) }
func done(no uint64) string               { return rec(isDone, no, "") }
func beginning(no uint64) string          { return rec(begins, no, "") }

// uvarint takes a number off, if it is laid in the shortest way.
func uvarint(b string) (n uint64, rest string, is bool) {
	n, k := binary.Uvarint([]byte(b))
	if k <= 0 || string(binary.AppendUvarint(nil, n)) != b[:k] {
		return 0, "", false
	}
	return n, b[k:], true
}

// unframed takes a frame off.
func unframed(b string) (in, rest string, is bool) {
	n, rest, is := uvarint(b)
	if !is || n > 4096 || uint64(len(rest)) < 4+n || framed(rest[4:4+n]) != b[:len(b)-len(rest)+4+int(n)] {
		return "", "", false
	}
	return rest[4 : 4+n], rest[4+n:], true
}

// line is a record that was read or written, and in which file.
type line struct {
	kind byte
	no   int
	data string
	file int
	sure bool
}

// lines are a file's records, up to what is none.
func lines(file int, b string) (all []line) {
	for b != "" {
		in, rest, is := unframed(b)
		if !is || in == "" {
			return all
		}
		no, data, is := uvarint(in[1:])
		if !is || no > greatest-1 {
			return all
		}
		switch {
		case in[0] == isBatch, in[0] == isDone && data == "", in[0] == begins && data == "":
			all = append(all, line{in[0], int(no), data, file, true})
		default:
			return all
		}
		b = rest
	}
	return all
}

// byWords is a disk, and a plain list of all records that were ever read or written, in order.
type byWords struct {
	d             *disk.Disk
	segment, most int
	begun         bool
	all           []line
}

func openByWords(d *disk.Disk, segment, most int) *byWords {
	w := &byWords{d: d, segment: segment, most: most}
	for _, no := range d.Files() {
		b, _ := d.Read(no)
		w.all = append(w.all, lines(no, string(b))...)
	}
	return w
}

// lastFile is -1, if there is none.
func (w *byWords) lastFile() int {
	last := -1
	for _, no := range w.d.Files() {
		last = max(last, no)
	}
	return last
}

// there are the batches that are there, by rising numbers: of each number the last record that is no beginning tells.
func (w *byWords) there() (all []line) {
	last := map[int]line{}
	for _, l := range w.all {
		if l.kind != begins {
			last[l.no] = l
		}
	}
	for _, l := range last {
		if l.kind == isBatch {
			all = append(all, l)
		}
	}
	sort.Slice(all, func(i, j int) bool { return all[i].no < all[j].no })
	return all
}

func (w *byWords) next() int {
	n := 0
	for _, l := range w.all {
		if l.kind != begins && l.no >= n {
			n = l.no + 1
		}
		if l.kind == begins && l.no > n {
			n = l.no
		}
	}
	return n
}

func (w *byWords) write(kind byte, no int, data string) {
	b, _ := w.d.Read(w.lastFile())
	if !w.begun || len(b) >= w.segment {
		w.begun = true
		w.d.Sync(w.lastFile())
		file, next := w.lastFile()+1, w.next()
		w.d.Write(file, []byte(beginning(uint64(next))))
		w.all = append(w.all, line{begins, next, "", file, true})
	}
	w.d.Write(w.lastFile(), []byte(rec(kind, uint64(no), data)))
	w.all = append(w.all, line{kind, no, data, w.lastFile(), false})
}

func (w *byWords) append(data string) (int, api.Errno) {
	if len(data) > 4000 {
		return 0, 3
	}
	if len(w.there()) >= w.most {
		return 0, 70
	}
	no := w.next()
	w.write(isBatch, no, data)
	return no, 0
}

func (w *byWords) ack(no int) api.Errno {
	for _, l := range w.there() {
		if l.no == no && l.sure {
			w.write(isDone, no, "")
			return 0
		}
	}
	return 71
}

func (w *byWords) sync() {
	w.d.Sync(w.lastFile())
	for i := range w.all {
		w.all[i].sure = true
	}
	for w.begun && len(w.d.Files()) >= 2 {
		first := w.d.Files()[0]
		if slices.ContainsFunc(w.there(), func(l line) bool { return l.file == first }) {
			return
		}
		w.d.Remove(first)
	}
}

func (w *byWords) ready() (all []api.Batch) {
	for _, l := range w.there() {
		if l.sure {
			all = append(all, api.Batch{Seq: l.no, Data: []byte(l.data)})
		}
	}
	return all
}

// pair is a spool, and what the words have it hold, each on a disk of its own: these are to be the same.
type pair struct {
	d *disk.Disk
	s *spool.Spool
	w *byWords
}

// newPair opens a disk, and a copy of it.
func newPair(t *testing.T, d *disk.Disk, segment, most int) *pair {
	t.Helper()
	copied := d.Copy()
	p := &pair{d, spool.Open(d, segment, most), openByWords(copied, segment, most)}
	if p.s == nil {
		t.Fatalf("Open(%d, %d): nil", segment, most)
	}
	p.look(t)
	return p
}

func (p *pair) append(t *testing.T, data string) int {
	t.Helper()
	got, e := p.s.Append([]byte(data))
	want, wanted := p.w.append(data)
	if got != want || e != wanted {
		t.Fatalf("Append(%s): %d, %d; want %d, %d", short(data), got, e, want, wanted)
	}
	p.look(t)
	return got
}

func (p *pair) ack(t *testing.T, no int) api.Errno {
	t.Helper()
	e, want := p.s.Ack(no), p.w.ack(no)
	if e != want {
		t.Fatalf("Ack(%d): %d; want %d", no, e, want)
	}
	p.look(t, no)
	return e
}

func (p *pair) sync(t *testing.T) {
	t.Helper()
	p.s.Sync()
	p.w.sync()
	p.look(t)
}

// again opens the disk as it is.
func (p *pair) again(t *testing.T) {
	t.Helper()
	*p = *newPair(t, p.d, p.w.segment, p.w.most)
}

// crash opens the disk behind a crash.
func (p *pair) crash(t *testing.T, draw uint64) {
	t.Helper()
	p.d.Crash(draw)
	p.again(t)
}

// look asks for what changes nothing, and looks at the disk.
func (p *pair) look(t *testing.T, others ...int) {
	t.Helper()
	wantReady(t, p.s, p.w.ready()...)
	there := p.w.there()
	if got := p.s.Len(); got != len(there) {
		t.Fatalf("Len: %d; want %d", got, len(there))
	}
	if got, want := p.s.Next(), p.w.next(); got != want {
		t.Fatalf("Next: %d; want %d", got, want)
	}
	asked := append([]int{math.MinInt, -1, 0, 1, greatest - 1, greatest, math.MaxInt, p.s.Next(), p.s.Next() + 1}, others...)
	for _, l := range there {
		asked = append(asked, l.no-1, l.no, l.no+1)
	}
	for _, no := range asked {
		want := slices.ContainsFunc(there, func(l line) bool { return l.no == no })
		if got := p.s.Has(no); got != want {
			t.Fatalf("Has(%d): %t; want %t", no, got, want)
		}
	}
	wantSegments(t, p.s, p.w.d.Files()...)
	wantAlike(t, p.d, p.w.d)
}

// wantAlike: have both disks the same files, and of these the same is sure?
func wantAlike(t *testing.T, got, want *disk.Disk) {
	t.Helper()
	if g, w := got.Files(), want.Files(); !slices.Equal(g, w) {
		t.Fatalf("the disk's files: %s; want %s", short(g), short(w))
	}
	for _, no := range want.Files() {
		g, _ := got.Read(no)
		w, _ := want.Read(no)
		if !bytes.Equal(g, w) || got.Sure(no) != want.Sure(no) {
			t.Fatalf("file %d: %q, of which %d are sure; want %q, %d", no, short(string(g)), got.Sure(no), short(string(w)), want.Sure(no))
		}
	}
}

func wantReady(t *testing.T, s *spool.Spool, want ...api.Batch) {
	t.Helper()
	got := s.Ready()
	same := func(a, b api.Batch) bool { return a.Seq == b.Seq && bytes.Equal(a.Data, b.Data) }
	if !slices.EqualFunc(got, want, same) {
		t.Fatalf("Ready: %s; want %s", told(got), told(want))
	}
	wantNoneBehind(t, "Ready", len(got), cap(got))
	for _, b := range got {
		wantNoneBehind(t, "a batch's Data", len(b.Data), cap(b.Data))
	}
}

func wantSegments(t *testing.T, s *spool.Spool, want ...int) {
	t.Helper()
	got := s.Segments()
	if !slices.Equal(got, want) {
		t.Fatalf("Segments: %s; want %s", short(got), short(want))
	}
	wantNoneBehind(t, "Segments", len(got), cap(got))
}

// want: so many are there, those that are sure as text, and the next number.
func want(t *testing.T, s *spool.Spool, ready string, there, next int) {
	t.Helper()
	if got := told(s.Ready()); got != ready || s.Len() != there || s.Next() != next {
		t.Errorf("Ready, Len, Next: %q, %d, %d; want %q, %d, %d", got, s.Len(), s.Next(), ready, there, next)
	}
}

func wantHas(t *testing.T, s *spool.Spool, has bool, all ...int) {
	t.Helper()
	for _, no := range all {
		if s.Has(no) != has {
			t.Errorf("Has(%d): %t; want %t", no, !has, has)
		}
	}
}

func wantAppend(t *testing.T, s *spool.Spool, data string, want int, wanted api.Errno) {
	t.Helper()
	if no, e := s.Append([]byte(data)); no != want || e != wanted {
		t.Errorf("Append(%s): %d, %d; want %d, %d", short(data), no, e, want, wanted)
	}
}

func wantAck(t *testing.T, s *spool.Spool, no int, want api.Errno) {
	t.Helper()
	if e := s.Ack(no); e != want {
		t.Errorf("Ack(%d): %d; want %d", no, e, want)
	}
}

// wantFile: it has these bytes, so many of which are sure.
func wantFile(t *testing.T, d *disk.Disk, no int, want string, sure int) {
	t.Helper()
	if b, e := d.Read(no); string(b) != want || e != api.OK || d.Sure(no) != sure {
		t.Errorf("file %d: %x, %d, of which %d are sure; want %x, 0, %d", no, short(string(b)), e, d.Sure(no), short(want), sure)
	}
}

func wantNoneBehind(t *testing.T, name string, n, room int) {
	t.Helper()
	if n != room {
		t.Fatalf("%s: %d lie behind the %d that are told", name, room-n, n)
	}
}

// told is batches as a text: each number, and its data, if they are few.
func told(all []api.Batch) string {
	s := ""
	for _, b := range all {
		s += fmt.Sprintf("%d:%s ", b.Seq, b.Data)
	}
	return short(s)
}

// short is a text of what may be long.
func short(x any) string {
	return fmt.Sprintf("%.300s", fmt.Sprintf("%v", x))
}

// open is a spool that is there.
func open(t *testing.T, d *disk.Disk, segment, most int) *spool.Spool {
	t.Helper()
	s := spool.Open(d, segment, most)
	if s == nil {
		t.Fatalf("Open(%d, %d): nil", segment, most)
	}
	return s
}

// file is one for a disk.
type file struct {
	no    int
	bytes string
}

// of is a disk with these files, all sure.
func of(t *testing.T, files ...file) *disk.Disk {
	t.Helper()
	d := disk.New()
	for _, f := range files {
		if e := d.Write(f.no, []byte(f.bytes)); e != api.OK {
			t.Fatalf("Write(%d): %d", f.no, e)
		}
		d.Sync(f.no)
	}
	return d
}

// drawn stops when something has failed: much more would be told of the same fault.
func drawn(t *testing.T, seed int64, times int, f func(r *rand.Rand)) {
	r := rand.New(rand.NewSource(seed))
	for i := 0; i < times && !t.Failed(); i++ {
		f(r)
	}
}

// bytesOf are so many, drawn.
func bytesOf(r *rand.Rand, n int) string {
	b := make([]byte, n)
	r.Read(b)
	return string(b)
}

// anyDraw is small as often as great.
func anyDraw(r *rand.Rand) uint64 {
	switch r.Intn(8) {
	case 0:
		return 0
	case 1:
		return math.MaxUint64
	}
	return r.Uint64() >> r.Intn(64)
}
