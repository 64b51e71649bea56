package item_test

import (
	"bytes"
	"math"
	"math/rand"
	"slices"
	"strings"
	"testing"

	"telemeter/api"
	"telemeter/item"
)

func TestEncode(t *testing.T) {
	wantEncode(t, leastLog(), "\x02\x03\x01\x6b\x04\x01", api.OK)
	wantEncode(t, leastSpan(), "\x01\x04\x01\x06\x01\x0b\x01n", api.OK)
	wantEncode(t, api.Item{Kind: 2, Log: api.Log{Key: "ab", Weight: 300, At: 128, Body: " "}},
		"\x02\x03\x02ab\x04\xac\x02\x06\x80\x01\x09\x01 ", api.OK)
	wantEncode(t, api.Item{Kind: 1, Span: api.Span{
		Hi: 1, Lo: 2, ID: 3, Parent: 300, Name: "ab", Start: 5, End: 6, Bad: true, Rv: 7,
		Attrs: []api.Attr{{Key: "k", Val: "vw"}, {Key: "l"}},
	}}, "\x01\x02\x01\x04\x02\x06\x03\x08\xac\x02\x0b\x02ab\x0c\x05\x0e\x06\x10\x01\x12\x07\x15\x04\x01kvw\x15\x02\x01l", api.OK)
	wantEncode(t, api.Item{Kind: 1, Span: api.Span{Hi: 1, ID: 1, Name: "n", Rv: 1 << 56}},
		"\x01\x02\x01\x06\x01\x0b\x01n\x12\x80\x80\x80\x80\x80\x80\x80\x80\x01", api.OK)
}

func TestKinds(t *testing.T) {
	for kind := range 0x100 {
		for _, x := range someItems() {
			want := ""
			e := api.ErrItem
			if kind == int(x.Kind) {
				want, e = encodeByWords(x), api.OK
			}
			x.Kind = uint8(kind)
			wantEncode(t, x, want, e)
		}
		for _, behind := range []string{"", "\x00", encodeByWords(leastLog())[1:], encodeByWords(leastSpan())[1:]} {
			wantAsWorded(t, string([]byte{byte(kind)})+behind)
		}
	}
}

// Of the other kind there is nothing: not one of its fields.
func TestSpanAndLog(t *testing.T) {
	for _, log := range []api.Log{leastLog().Log, wholeLog().Log, {Key: "k"}, {Weight: 1}, {At: 1}, {At: -1}, {Body: "b"}} {
		for _, x := range []api.Item{leastSpan(), wholeSpan()} {
			x.Log = log
			wantEncode(t, x, "", api.ErrItem)
		}
	}
	for _, span := range []api.Span{
		leastSpan().Span, wholeSpan().Span, {Hi: 1}, {Lo: 1}, {ID: 1}, {Parent: 1}, {Name: "n"}, {Start: 1}, {Start: -1},
		{End: 1}, {End: -1}, {Bad: true}, {Rv: 1}, {Attrs: []api.Attr{{Key: "k"}}}, {Attrs: []api.Attr{{}}},
	} {
		for _, x := range []api.Item{leastLog(), wholeLog()} {
			x.Span = span
			wantEncode(t, x, "", api.ErrItem)
		}
	}
	x := wholeLog()
	x.Span.Attrs = []api.Attr{} // R6: a list that is empty is nothing
	wantEncode(t, x, encodeByWords(wholeLog()), api.OK)
}

func TestThereAndBack(t *testing.T) {
	drawn(3, 5000, func(r *rand.Rand) { wantRight(t, drawnItem(r), true) })
}

// In one way: two items that are not the same have other bytes.
func TestOneWay(t *testing.T) {
	seen := map[string]api.Item{}
	drawn(4, 5000, func(r *rand.Rand) {
		x := drawnItem(r)
		if r.Intn(2) == 0 {
			spoilt(r, &x)
		}
		b, e := item.Encode(x)
		if was, ok := seen[string(b)]; e == api.OK && ok && !same(was, x) {
			t.Errorf("%+v and %+v are % x", was, x, b)
		}
		seen[string(b)] = x
	})
}

func TestDecode(t *testing.T) {
	wantDecode(t, "\x02\x03\x01\x6b\x04\x01", leastLog(), api.OK)
	wantDecode(t, "\x01\x04\x01\x06\x01\x0b\x01n", leastSpan(), api.OK)
	wantDecode(t, "\x01\x02\x01\x04\x02\x06\x03\x08\xac\x02\x0b\x02ab\x0c\x05\x0e\x06\x10\x01\x12\x07\x15\x04\x01kvw\x15\x02\x01l",
		api.Item{Kind: 1, Span: api.Span{
			Hi: 1, Lo: 2, ID: 3, Parent: 300, Name: "ab", Start: 5, End: 6, Bad: true, Rv: 7,
			Attrs: []api.Attr{{Key: "k", Val: "vw"}, {Key: "l"}},
		}}, api.OK)
}

func TestDecodeOfNothing(t *testing.T) {
	for _, b := range [][]byte{nil, {}, {0}, {1}, {2}, {3}, {0xff}} {
		if x, e := item.Decode(b); !same(x, api.Item{}) || e != api.ErrItem {
			t.Errorf("Decode(% x): %+v, %d; want nothing, ErrItem", b, x, e)
		}
	}
}

func TestDecodeOneByteMore(t *testing.T) {
	for _, x := range someItems() {
		b := encodeByWords(x)
		for c := range 0x100 {
			more := string([]byte{byte(c)})
			wantDecode(t, b+more, api.Item{}, api.ErrItem)
			wantDecode(t, more+b, api.Item{}, api.ErrItem)
		}
		wantDecode(t, b+b, api.Item{}, api.ErrItem)
	}
}

// A byte more between any two.
func TestDecodeOneByteAmong(t *testing.T) {
	for _, x := range []api.Item{leastSpan(), leastLog(), wholeSpan(), wholeLog()} {
		b := encodeByWords(x)
		for at := 1; at < len(b); at++ {
			for c := range 0x100 {
				wantAsWorded(t, b[:at]+string([]byte{byte(c)})+b[at:])
			}
		}
	}
}

// What is cut short is right only where it ends ahead of a field that may be left out.
func TestDecodeCutShort(t *testing.T) {
	for _, x := range someItems() {
		b := encodeByWords(x)
		for end := range len(b) {
			wantAsWorded(t, b[:end])
		}
	}
	for _, x := range []api.Item{leastSpan(), leastLog()} { // no field of these may be left out
		b := encodeByWords(x)
		for end := range len(b) {
			wantDecode(t, b[:end], api.Item{}, api.ErrItem)
		}
	}
}

// Each byte is another one in turn, in all ways; and each byte is left out.
func TestDecodeOtherByte(t *testing.T) {
	for _, x := range someItems()[:8] {
		b := encodeByWords(x)
		for at := range len(b) {
			for other := 1; other < 0x100; other++ {
				c := []byte(b)
				c[at] ^= byte(other)
				wantAsWorded(t, string(c))
			}
			wantAsWorded(t, b[:at]+b[at+1:])
		}
	}
}

// The fields of a span and of a log, as they are laid, in order.
func spanFields() []string {
	return []string{numberField(1, 5), numberField(2, 6), numberField(3, 7), numberField(4, 8), textField(5, "name"), numberField(6, 9), numberField(7, 10), numberField(8, 1), numberField(9, 11), attr("k", "v")}
}

func logFields() []string {
	return []string{textField(1, "key"), numberField(2, 5), numberField(3, 6), textField(4, "body")}
}

// kinds tells the byte of each kind with its fields.
func kinds(f func(kind string, fields []string)) {
	f("\x01", spanFields())
	f("\x02", logFields())
}

func TestDecodeFieldLeftOut(t *testing.T) {
	kinds(func(kind string, fields []string) {
		for i := range fields {
			b := kind + strings.Join(slices.Concat(fields[:i], fields[i+1:]), "")
			needed := kind == "\x01" && (i == 2 || i == 4 || i == 6) || kind == "\x02" && i < 2 // without an End it is ahead of Start
			if wantAsWorded(t, b) == needed {
				t.Errorf("without field %d: % x", i+1, b)
			}
		}
	})
}

func TestDecodeFieldTwice(t *testing.T) {
	kinds(func(kind string, fields []string) {
		if !wantAsWorded(t, kind+strings.Join(fields, "")) {
			t.Fatalf("% x is to be right", fields)
		}
		for i := range fields {
			for j := range len(fields) + 1 {
				b := kind + strings.Join(slices.Insert(slices.Clone(fields), j, fields[i]), "")
				wantDecode(t, b, api.Item{}, api.ErrItem)
			}
		}
	})
	wantDecode(t, "\x02"+textField(1, "key")+textField(1, "kez")+numberField(2, 5), api.Item{}, api.ErrItem)
}

func TestDecodeOtherOrder(t *testing.T) {
	kinds(func(kind string, fields []string) {
		for i := range fields {
			for j := range i {
				other := slices.Clone(fields)
				other[i], other[j] = other[j], other[i]
				wantDecode(t, kind+strings.Join(other, ""), api.Item{}, api.ErrItem)
			}
		}
	})
}

// A field that is to be left out, as it is 0 or empty, stands there.
func TestDecodeOfNought(t *testing.T) {
	kinds(func(kind string, fields []string) {
		for i, was := range fields {
			none := numberField(uint64(i)+1, 0)
			if was[0]%2 == 1 {
				none = textField(uint64(i)+1, "")
			}
			other := slices.Clone(fields)
			other[i] = none
			wantDecode(t, kind+strings.Join(other, ""), api.Item{}, api.ErrItem)
		}
	})
	least := "\x01" + numberField(2, 1) + numberField(3, 1) + textField(5, "n")
	wantDecode(t, least, leastSpan(), api.OK)
	for _, field := range []uint64{6, 7, 8, 9} {
		wantDecode(t, least+numberField(field, 0), api.Item{}, api.ErrItem)
	}
	wantDecode(t, least+textField(10, ""), api.Item{}, api.ErrItem)
	wantDecode(t, "\x01"+numberField(1, 0)+least[1:], api.Item{}, api.ErrItem)
	wantDecode(t, "\x02"+textField(1, "k")+numberField(2, 1)+numberField(3, 0), api.Item{}, api.ErrItem)
	wantDecode(t, "\x02"+textField(1, "k")+numberField(2, 1)+textField(4, ""), api.Item{}, api.ErrItem)
}

// longer is a number in a byte more than it takes.
func longer(v uint64) string {
	b := []byte(bare(v))
	b[len(b)-1] |= 0x80
	return string(append(b, 0))
}

func TestDecodeMoreBytes(t *testing.T) {
	kinds(func(kind string, fields []string) {
		for i, was := range fields {
			others := []string{longer(uint64(was[0])) + was[1:], was[:1] + longer(uint64(was[1])) + was[2:]}
			for _, other := range others {
				list := slices.Clone(fields)
				list[i] = other
				wantDecode(t, kind+strings.Join(list, ""), api.Item{}, api.ErrItem)
			}
		}
	})
	least := encodeByWords(leastSpan())
	wantDecode(t, least+attr("k", "v"), withLeast(api.Attr{Key: "k", Val: "v"}), api.OK)
	wantDecode(t, least+textField(10, longer(1)+"kv"), api.Item{}, api.ErrItem)
	wantDecode(t, longer(1)+least[1:], api.Item{}, api.ErrItem) // the kind is a byte, no number
}

// withLeast is the least span, with Attrs.
func withLeast(attrs ...api.Attr) api.Item {
	x := leastSpan()
	x.Span.Attrs = attrs
	return x
}

// A number where a text is to stand, or the other way round; a field that is none.
func TestDecodeOtherFields(t *testing.T) {
	kinds(func(kind string, fields []string) {
		for i, was := range fields {
			field := uint64(i) + 1
			other := slices.Clone(fields)
			other[i] = textField(field, "x")
			if was[0]%2 == 1 {
				other[i] = numberField(field, 1)
			}
			wantDecode(t, kind+strings.Join(other, ""), api.Item{}, api.ErrItem)
		}
		whole := strings.Join(fields, "")
		for _, field := range []uint64{0, 5, 11, 12, 64, 1 << 32, 1<<63 - 1} {
			for _, none := range []string{numberField(field, 1), numberField(field, 0), textField(field, "x"), textField(field, "")} {
				wantDecode(t, kind+none+whole, api.Item{}, api.ErrItem)
				wantDecode(t, kind+whole+none, api.Item{}, api.ErrItem)
			}
		}
	})
	wantDecode(t, "\x02"+strings.Join(spanFields(), ""), api.Item{}, api.ErrItem)
	wantDecode(t, "\x01"+strings.Join(logFields(), ""), api.Item{}, api.ErrItem)
	wantDecode(t, "\x01"+strings.Join(spanFields(), "")+strings.Join(logFields(), ""), api.Item{}, api.ErrItem)
}

func TestDecodeNumbersBeyond(t *testing.T) {
	for _, v := range []uint64{2, 3, 1 << 32, 1<<40 - 1, 1 << 40, 1<<40 + 1, 1 << 56, 1<<56 + 1, 1<<63 - 1, 1 << 63, 1<<63 + 9, 1<<64 - 9, math.MaxUint64} {
		kinds(func(kind string, fields []string) {
			for i, was := range fields {
				if was[0]%2 == 0 {
					other := slices.Clone(fields)
					other[i] = numberField(uint64(i)+1, v)
					wantAsWorded(t, kind+strings.Join(other, ""))
				}
			}
		})
		wantDecode(t, encodeByWords(leastSpan())+numberField(8, v), api.Item{}, api.ErrItem) // Bad is 1, if it is there
		wantAsWorded(t, encodeByWords(leastSpan())+numberField(6, v)+numberField(7, v))
	}
}

func TestDecodeTextsBeyond(t *testing.T) {
	for _, size := range []int{59, 60, 61, 121, 122, 127, 128, 199, 200, 201, 5000} {
		long := strings.Repeat("x", size)
		kinds(func(kind string, fields []string) {
			for i, was := range fields {
				if was[0]%2 == 1 {
					other := slices.Clone(fields)
					other[i] = textField(uint64(i)+1, long)
					wantAsWorded(t, kind+strings.Join(other, ""))
				}
			}
		})
		least := encodeByWords(leastSpan())
		wantAsWorded(t, least+attr(long, ""))
		wantAsWorded(t, least+attr("k", long))
		wantAsWorded(t, least+attr(strings.Repeat("k", 60), long))
		for _, name := range []string{" ", "\x7f", "a\x20", "\x80", "é"} {
			wantDecode(t, "\x02"+textField(1, name)+numberField(2, 1), api.Item{}, api.ErrItem)
			wantDecode(t, "\x01"+numberField(2, 1)+numberField(3, 1)+textField(5, name), api.Item{}, api.ErrItem)
			wantDecode(t, least+attr(name, "v"), api.Item{}, api.ErrItem)
		}
	}
	for _, size := range []uint64{2, 1 << 31, 1 << 32, 1<<63 - 1, 1 << 63, math.MaxUint64} { // more than there is
		wantDecode(t, "\x02\x03"+bare(size)+"k", api.Item{}, api.ErrItem)
		wantDecode(t, encodeByWords(leastSpan())+"\x15"+bare(size)+"k", api.Item{}, api.ErrItem)
		wantDecode(t, encodeByWords(leastSpan())+textField(10, bare(size)+"k"), api.Item{}, api.ErrItem)
	}
}

func TestDecodeAttrs(t *testing.T) {
	least := encodeByWords(leastSpan())
	a, b := api.Attr{Key: "a", Val: "1"}, api.Attr{Key: "b"}
	wantDecode(t, least+attr("a", "1")+attr("b", ""), withLeast(a, b), api.OK)
	for _, behind := range []string{
		attr("b", "") + attr("a", "1"), attr("a", "") + attr("a", ""), attr("a", "") + attr("a", "1"), attr("aa", "") + attr("a", ""),
		attr("", ""), attr("", "v"), attr("a", "") + attr("", ""), textField(10, "\x02k"), textField(10, "\x80"), textField(10, "\xff\xff"), "\x15", "\x15\x02\x01",
	} {
		wantDecode(t, least+behind, api.Item{}, api.ErrItem)
	}
	var attrs []api.Attr
	whole := least
	for i := range 12 {
		key := string(rune('a' + i))
		if i <= 8 {
			wantDecode(t, whole, withLeast(attrs...), api.OK)
		} else {
			wantDecode(t, whole, api.Item{}, api.ErrItem)
		}
		attrs, whole = append(attrs, api.Attr{Key: key, Val: key}), whole+attr(key, key)
	}
	wantDecode(t, least+strings.Repeat(attr("a", ""), 10000), api.Item{}, api.ErrItem)
}

// T7: any bytes; those that are drawn of what matters, and fields that are drawn.
func TestAnyBytes(t *testing.T) {
	rights := 0
	check := func(b string) {
		if wantAsWorded(t, b) {
			rights++
		}
	}
	matter := []byte{0, 1, 2, 3, 4, 6, 8, 9, 0x0b, 0x0c, 0x0e, 0x10, 0x12, 0x15, 'k', 0x7f, 0x80, 0xff}
	drawn(5, 30000, func(r *rand.Rand) {
		b := make([]byte, r.Intn(24))
		for i := range b {
			b[i] = matter[r.Intn(len(matter))]
		}
		check(string(b))
	})
	drawn(6, 60000, func(r *rand.Rand) {
		b := string([]byte{byte(1 + r.Intn(2))})
		for field := range uint64(11) {
			v := uint64(r.Intn(3))
			switch {
			case r.Intn(40) == 0:
			case b[0] == 2 && (field == 1 || field == 4) || b[0] == 1 && field == 5:
				b += textField(field, strings.Repeat("k", 1+int(v)))
			case b[0] == 1 && field == 10:
				b += attr("k", "v")
			case field > 0 && field < 10 && (b[0] == 1 || field < 4):
				b += numberField(field, 1)
			}
		}
		if r.Intn(4) == 0 {
			at := r.Intn(len(b))
			b = b[:at] + string(matter[r.Intn(len(matter)):][:1]) + b[at+1:]
		}
		check(b)
	})
	if rights < 10000 {
		t.Errorf("%d are right: the draws try too little", rights)
	}
}

// spoil writes over all of a list's memory, behind its length too.
func spoil(b []byte) {
	whole := b[:cap(b)]
	for i := range whole {
		whole[i] = 0xee
	}
}

// R2: what is handed in stays as it was, and what lies behind its length is neither read nor written.
func TestHandedInStays(t *testing.T) {
	room := append(wholeSpan().Span.Attrs, api.Attr{Key: "", Val: "behind"}, api.Attr{Key: "a"})
	was := slices.Clone(room)
	x := wholeSpan()
	x.Span.Attrs = room[:3]
	wantRight(t, x, true)
	if !slices.Equal(room, was) {
		t.Errorf("what was handed in is %+v; was %+v", room, was)
	}
	x.Span.Attrs = room[:0]
	x.Log = api.Log{}
	wantRight(t, x, true)
	y := wholeLog()
	y.Span.Attrs = room[:0]
	wantEncode(t, y, encodeByWords(wholeLog()), api.OK)
	for _, x := range someItems() {
		whole := encodeByWords(x)
		b := []byte(whole + whole)
		got, e := item.Decode(b[:len(whole)])
		if !same(got, x) || e != api.OK || string(b) != whole+whole {
			t.Errorf("Decode of the first %d of % x: %+v, %d", len(whole), b, got, e)
		}
		item.Decode(b)
		if got, e := item.Decode(b[:0]); !same(got, api.Item{}) || e != api.ErrItem || string(b) != whole+whole {
			t.Errorf("Decode of none of % x: %+v, %d", b, got, e)
		}
	}
}

// R2: what comes out is new memory: spoilt, it spoils neither what was handed in nor another answer, nor the other way round.
func TestNewMemory(t *testing.T) {
	for _, x := range someItems() {
		want := encodeByWords(x)
		one, _ := item.Encode(x)
		two, _ := item.Encode(x)
		spoil(one)
		if string(two) != want {
			t.Errorf("answers of Encode share memory: % x; want % x", two, want)
		}
		b := []byte(want)
		first, _ := item.Decode(b)
		second, _ := item.Decode(b)
		spoil(b)
		if !same(first, x) || !same(second, x) {
			t.Errorf("answers of Decode go with what was handed in: %+v; want %+v", first, x)
		}
		attrs := first.Span.Attrs
		for i := range attrs[:cap(attrs)] {
			attrs[:cap(attrs)][i] = api.Attr{Key: "spoilt"}
		}
		if !same(second, x) {
			t.Errorf("answers of Decode share memory: %+v; want %+v", second, x)
		}
	}
}

// R2: nothing shows behind an answer's length.
func TestNothingBehindAnswers(t *testing.T) {
	for _, x := range someItems() {
		b, _ := item.Encode(x)
		if rest := b[len(b):cap(b)]; !bytes.Equal(rest, make([]byte, len(rest))) {
			t.Errorf("behind % x: % x", b, rest)
		}
		got, _ := item.Decode(b)
		attrs := got.Span.Attrs
		for _, a := range attrs[len(attrs):cap(attrs)] {
			if a != (api.Attr{}) {
				t.Errorf("behind %+v: %+v", attrs, a)
			}
		}
	}
}
