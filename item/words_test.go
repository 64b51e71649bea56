package item_test

import (
	"bytes"
	"encoding/binary"
	"math"
	"math/rand"
	"reflect"
	"regexp"
	"slices"
	"testing"

	"telemeter/api"
	"telemeter/item"
)

// What the chapter words, written another way than the program is: the tests hold one against the other.

var name = regexp.MustCompile(`\A[!-~]{1,60}\z`)

func spanByWords(s api.Span) bool {
	keys := []string{}
	for _, a := range s.Attrs {
		if !name.MatchString(a.Key) || len(a.Val) > 60 {
			return false
		}
		keys = append(keys, a.Key)
	}
	rising := slices.Clone(keys)
	slices.Sort(rising)
	switch {
	case s.Hi == 0 && s.Lo == 0, s.ID == 0, !name.MatchString(s.Name):
		return false
	case s.Start < 0, s.End < s.Start, s.End > 1<<40, s.Rv > 1<<56:
		return false
	}
	return len(keys) <= 8 && slices.Equal(keys, slices.Compact(rising))
}

func logByWords(l api.Log) bool {
	switch {
	case !name.MatchString(l.Key), l.Weight == 0, l.Weight > 1<<32, l.At < 0, l.At > 1<<40:
		return false
	}
	return len(l.Body) <= 200
}

func rightByWords(x api.Item) bool {
	none := api.Item{Kind: x.Kind}
	switch x.Kind {
	case 1:
		none.Span = x.Span
		return spanByWords(x.Span) && same(x, none)
	case 2:
		none.Log = x.Log
		return logByWords(x.Log) && same(x, none)
	}
	return false
}

// same: are two items the same? (R6: a list that is nil and one that is empty are.)
func same(x, y api.Item) bool {
	if !slices.Equal(x.Span.Attrs, y.Span.Attrs) {
		return false
	}
	x.Span.Attrs, y.Span.Attrs = nil, nil
	return reflect.DeepEqual(x, y)
}

// bare is a number as num.Put lays it, by the library.
func bare(n uint64) string { return string(binary.AppendUvarint(nil, n)) }

// numberField and textField are a field as it is laid, whatever is in it.
func numberField(field, n uint64) string { return bare(2*field) + bare(n) }

func textField(field uint64, s string) string { return bare(2*field+1) + bare(uint64(len(s))) + s }

// attr is a field of Attrs.
func attr(key, val string) string { return textField(10, bare(uint64(len(key)))+key+val) }

// encodeByWords is Encode of an item that is right.
func encodeByWords(x api.Item) string {
	s, l := x.Span, x.Log
	b := string([]byte{x.Kind})
	number := func(field, v uint64) {
		if v > 0 {
			b += numberField(field, v)
		}
	}
	text := func(field uint64, v string) {
		if len(v) > 0 {
			b += textField(field, v)
		}
	}
	if x.Kind == 2 {
		text(1, l.Key)
		number(2, l.Weight)
		number(3, uint64(l.At))
		text(4, l.Body)
		return b
	}
	for i, v := range []uint64{s.Hi, s.Lo, s.ID, s.Parent} {
		number(uint64(i)+1, v)
	}
	text(5, s.Name)
	number(6, uint64(s.Start))
	number(7, uint64(s.End))
	number(8, map[bool]uint64{true: 1}[s.Bad])
	number(9, s.Rv)
	for _, a := range s.Attrs {
		b += attr(a.Key, a.Val)
	}
	return b
}

// take is a number from the beginning of bytes, if it stands there in as few bytes as there can be.
func take(b []byte) (uint64, []byte, bool) {
	v, size := binary.Uvarint(b)
	if size <= 0 || bare(v) != string(b[:size]) {
		return 0, nil, false
	}
	return v, b[size:], true
}

func takeText(b []byte) (string, []byte, bool) {
	size, rest, ok := take(b)
	if !ok || size > uint64(len(rest)) {
		return "", nil, false
	}
	return string(rest[:size]), rest[size:], true
}

// decodeByWords is Decode, field by field, with each rule of Encode asked as it goes.
func decodeByWords(b []byte) (api.Item, bool) {
	if len(b) == 0 {
		return api.Item{}, false
	}
	x := api.Item{Kind: b[0]}
	last, rest := uint64(0), b[1:]
	for len(rest) > 0 {
		tag, behind, ok := take(rest)
		field := tag / 2
		if !ok || field < last || field == last && (x.Kind != 1 || field != 10) {
			return api.Item{}, false
		}
		last = field
		var v uint64
		var s string
		if tag%2 == 0 {
			v, rest, ok = take(behind)
		} else {
			s, rest, ok = takeText(behind)
		}
		if !ok || v == 0 && s == "" || !set(&x, tag, v, s) {
			return api.Item{}, false
		}
	}
	if !rightByWords(x) {
		return api.Item{}, false
	}
	return x, true
}

// set: is there such a field? Then the item has it.
func set(x *api.Item, tag, v uint64, s string) bool {
	p, l := &x.Span, &x.Log
	switch 100*uint64(x.Kind) + tag {
	case 102:
		p.Hi = v
	case 104:
		p.Lo = v
	case 106:
		p.ID = v
	case 108:
		p.Parent = v
	case 111:
		p.Name = s
	case 112:
		p.Start = int(v)
	case 114:
		p.End = int(v)
	case 116:
		p.Bad = true
		return v == 1
	case 118:
		p.Rv = v
	case 121:
		key, val, ok := takeText([]byte(s))
		p.Attrs = append(p.Attrs, api.Attr{Key: key, Val: string(val)})
		return ok
	case 203:
		l.Key = s
	case 204:
		l.Weight = v
	case 206:
		l.At = int(v)
	case 209:
		l.Body = s
	default:
		return false
	}
	return true
}

func wantEncode(t *testing.T, x api.Item, want string, e api.Errno) {
	t.Helper()
	got, gotE := item.Encode(x)
	if string(got) != want || gotE != e {
		t.Errorf("Encode(%+v): % x, %d; want % x, %d", x, got, gotE, want, e)
	}
}

func wantDecode(t *testing.T, b string, want api.Item, e api.Errno) {
	t.Helper()
	got, gotE := item.Decode([]byte(b))
	if !same(got, want) || gotE != e {
		t.Errorf("Decode(% x): %+v, %d; want %+v, %d", b, got, gotE, want, e)
	}
}

// wantRight: an item that is right, and goes there and back; or one that is not, and does not go.
func wantRight(t *testing.T, x api.Item, want bool) {
	t.Helper()
	got := item.RightSpan(x.Span)
	if x.Kind == 2 {
		got = item.RightLog(x.Log)
	}
	if got != want {
		t.Errorf("%+v is right: %t; want %t", x, got, want)
	}
	if !want {
		wantEncode(t, x, "", api.ErrItem)
		return
	}
	wantEncode(t, x, encodeByWords(x), api.OK)
	wantDecode(t, encodeByWords(x), x, api.OK)
}

// wantAsWorded: what Decode tells of bytes is what the chapter's words tell.
func wantAsWorded(t *testing.T, b string) (right bool) {
	t.Helper()
	x, right := decodeByWords([]byte(b))
	e := api.ErrItem
	if right {
		e = api.OK
	}
	wantDecode(t, b, x, e)
	return right
}

// The least that a span and a log may have.
func leastSpan() api.Item { return api.Item{Kind: 1, Span: api.Span{Lo: 1, ID: 1, Name: "n"}} }
func leastLog() api.Item  { return api.Item{Kind: 2, Log: api.Log{Key: "k", Weight: 1}} }

// A span and a log with something in each field.
func wholeSpan() api.Item {
	return api.Item{Kind: 1, Span: api.Span{
		Hi: 0x0102030405060708, Lo: 300, ID: math.MaxUint64, Parent: 0x80, Name: "get:/a~", Start: 5, End: 1 << 40, Bad: true,
		Rv: 1 << 56, Attrs: []api.Attr{{Key: "code", Val: "50 0"}, {Key: "host"}, {Key: "host2", Val: "\x00\xff"}},
	}}
}

func wholeLog() api.Item {
	return api.Item{Kind: 2, Log: api.Log{Key: "disk!", Weight: 1 << 32, At: 1 << 40, Body: "full: \x00\x80\xff"}}
}

// someItems: those above, and some between.
func someItems() []api.Item {
	l := []api.Item{leastSpan(), leastLog(), wholeSpan(), wholeLog()}
	drawn(1, 20, func(r *rand.Rand) { l = append(l, drawnItem(r)) })
	return l
}

func drawn(seed int64, times int, f func(r *rand.Rand)) {
	r := rand.New(rand.NewSource(seed))
	for range times {
		f(r)
	}
}

func drawnText(r *rand.Rand, least, most, first, last int) string {
	b := make([]byte, least+r.Intn(most-least+1))
	for i := range b {
		b[i] = byte(first + r.Intn(last-first+1))
	}
	return string(b)
}

func drawnName(r *rand.Rand) string { return drawnText(r, 1, 1+r.Intn(60), 0x21, 0x7e) }

// drawnItem is an item that is right.
func drawnItem(r *rand.Rand) api.Item {
	least := func(most uint64) uint64 { return (r.Uint64() >> r.Intn(64)) % (most + 1) }
	if r.Intn(2) == 0 {
		return api.Item{Kind: 2, Log: api.Log{
			Key: drawnName(r), Weight: 1 + least(1<<32-1), At: int(least(1 << 40)), Body: drawnText(r, 0, r.Intn(201), 0, 0xff),
		}}
	}
	start := least(1 << 40)
	s := api.Span{
		Hi: r.Uint64() >> r.Intn(65), Lo: r.Uint64() | 1, ID: r.Uint64() | 1, Parent: r.Uint64() >> r.Intn(65), Name: drawnName(r),
		Start: int(start), End: int(start + least(1<<40-start)), Bad: r.Intn(2) == 0, Rv: least(1 << 56),
	}
	for range r.Intn(9) {
		s.Attrs = append(s.Attrs, api.Attr{Key: drawnName(r), Val: drawnText(r, 0, r.Intn(61), 0, 0xff)})
	}
	slices.SortFunc(s.Attrs, func(a, b api.Attr) int { return bytes.Compare([]byte(a.Key), []byte(b.Key)) })
	s.Attrs = slices.CompactFunc(s.Attrs, func(a, b api.Attr) bool { return a.Key == b.Key })
	return api.Item{Kind: 1, Span: s}
}
