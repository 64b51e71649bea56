package spool

import (
	"iter"

	"telemeter/api"
	"telemeter/frame"
	"telemeter/num"
)

// Kinds of records.
const (
	kindBatch byte = iota + 1
	kindDone
	kindBeginning
)

// record is what stands in a file; data are a batch's.
type record struct {
	kind byte
	no   int
	data []byte
}

// framed is a record as it is laid.
func (r record) framed() []byte {
	b := append([]byte{r.kind}, num.Put(uint64(r.no))...)
	f, _ := frame.Frame(append(b, r.data...)) // it is short enough: Append takes no more bytes than there is room for
	return f
}

// recordOf is the way back from what was framed (false: it is none).
func recordOf(b []byte) (record, bool) {
	if len(b) == 0 || b[0] < kindBatch || b[0] > kindBeginning {
		return record{}, false
	}
	no, behind, e := num.Get(b, 1)
	if e != api.OK || no >= api.MaxTime {
		return record{}, false
	}
	r := record{kind: b[0], no: int(no), data: b[behind:]}
	if r.kind != kindBatch && len(r.data) > 0 {
		return record{}, false
	}
	return r, true
}

// frames tells what was framed, one behind the other, up to what is no frame.
func frames(b []byte) iter.Seq[[]byte] {
	return func(yield func([]byte) bool) {
		at := 0 // within the walk, so that each begins with the first one
		for at < len(b) {
			one, behind, e := frame.Take(b, at)
			if e != api.OK || !yield(one) {
				return
			}
			at = behind
		}
	}
}

// records tells a file's records, up to what is none.
func records(b []byte) iter.Seq[record] {
	return func(yield func(record) bool) {
		for one := range frames(b) {
			r, is := recordOf(one)
			if !is || !yield(r) {
				return
			}
		}
	}
}
