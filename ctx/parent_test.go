package ctx_test

import (
	"math"
	"math/rand"
	"strings"
	"testing"

	"telemeter/api"
)

const (
	someText   = "00-0123456789abcdeffedcba9876543210-00f067aa0ba902b7-01"
	noughtHalf = "0000000000000000"
	oneHalf    = "0000000000000001"
)

func someParent() api.Parent {
	return api.Parent{Hi: 0x0123456789abcdef, Lo: 0xfedcba9876543210, Span: 0x00f067aa0ba902b7, Flags: 1}
}

// wantParent: there and back.
func wantParent(t *testing.T, s string, p api.Parent) {
	t.Helper()
	wantParse(t, s, p, api.OK)
	wantPrint(t, p, s, api.OK)
}

func TestParent(t *testing.T) {
	wantParent(t, someText, someParent())
	wantParent(t, "00-00000000000000010000000000000002-0000000000000003-04", api.Parent{Hi: 1, Lo: 2, Span: 3, Flags: 4})
	wantParent(t, "00-"+strings.Repeat("f", 32)+"-"+strings.Repeat("f", 16)+"-ff",
		api.Parent{Hi: math.MaxUint64, Lo: math.MaxUint64, Span: math.MaxUint64, Flags: 0xff})
	wantParent(t, "00-80000000000000004000000000000000-2000000000000000-10",
		api.Parent{Hi: 1 << 63, Lo: 1 << 62, Span: 1 << 61, Flags: 16})
}

func TestFlags(t *testing.T) {
	const signs = "0123456789abcdef"
	for flags := range 0x100 {
		p := someParent()
		p.Flags = uint8(flags)
		wantParent(t, someText[:53]+signs[flags/16:flags/16+1]+signs[flags%16:flags%16+1], p)
	}
}

// One half of a trace may be 0; not both; nor may a span.
func TestNoughts(t *testing.T) {
	for _, c := range []struct {
		hi, lo, span uint64
		text         string
		e            api.Errno
	}{
		{0, 1, 1, noughtHalf + oneHalf + "-" + oneHalf, api.OK},
		{1, 0, 1, oneHalf + noughtHalf + "-" + oneHalf, api.OK},
		{1, 1, 1, oneHalf + oneHalf + "-" + oneHalf, api.OK},
		{0, 0, 1, noughtHalf + noughtHalf + "-" + oneHalf, api.ErrArg},
		{1, 1, 0, oneHalf + oneHalf + "-" + noughtHalf, api.ErrArg},
		{0, 1, 0, noughtHalf + oneHalf + "-" + noughtHalf, api.ErrArg},
		{1, 0, 0, oneHalf + noughtHalf + "-" + noughtHalf, api.ErrArg},
		{0, 0, 0, noughtHalf + noughtHalf + "-" + noughtHalf, api.ErrArg},
	} {
		for _, flags := range []uint8{0, 1, 0xff} {
			p := api.Parent{Hi: c.hi, Lo: c.lo, Span: c.span, Flags: flags}
			text := "00-" + c.text + map[uint8]string{0: "-00", 1: "-01", 0xff: "-ff"}[flags]
			if c.e == api.OK {
				wantParent(t, text, p)
				continue
			}
			wantParse(t, text, api.Parent{}, c.e)
			wantPrint(t, p, "", c.e)
		}
	}
	wantParent(t, "00-"+strings.Repeat("f", 16)+oneHalf+"-"+oneHalf+"-00", // the sum of its halves is 0, modulo 2^64
		api.Parent{Hi: math.MaxUint64, Lo: 1, Span: 1})
}

// R1: what has not the form is told to be that, noughts or not.
func TestFormAheadOfNoughts(t *testing.T) {
	none := "00-" + noughtHalf + noughtHalf + "-" + noughtHalf + "-00"
	wantParse(t, none, api.Parent{}, api.ErrArg)
	for _, s := range []string{none + "0", none[:54], none + " ", none[:54] + "g", none[:54] + "A", "01" + none[2:], strings.ReplaceAll(none, "-", "0")} {
		wantParse(t, s, api.Parent{}, api.ErrForm)
	}
}

// Each sign of the text is each other byte: digits are other digits, all else is wrong.
func TestEachSign(t *testing.T) {
	for at := range len(someText) {
		for c := range 0x100 {
			s := someText[:at] + string([]byte{byte(c)}) + someText[at+1:]
			p, e := parseByWords(s)
			wantParse(t, s, p, e)
			digit := at > 2 && at != 35 && at != 52 && strings.IndexByte("0123456789abcdef", byte(c)) >= 0
			if want := digit || s == someText; want != (e == api.OK) {
				t.Errorf("%q: %d by the words", s, e)
			}
		}
	}
}

// One sign more, or one less, at each place.
func TestOtherSize(t *testing.T) {
	for at := range len(someText) + 1 {
		for _, c := range []string{"0", "f", "-", " ", "\x00", "\n", "é", "00-", someText} {
			wantParse(t, someText[:at]+c+someText[at:], api.Parent{}, api.ErrForm)
		}
	}
	for at := range len(someText) {
		wantParse(t, someText[:at], api.Parent{}, api.ErrForm)
		wantParse(t, someText[:at]+someText[at+1:], api.Parent{}, api.ErrForm)
	}
}

func TestOtherForms(t *testing.T) {
	for _, s := range []string{
		"", "0", "-", "--", "---", "00", "00-", "00---", someText + "-", someText + "-00", someText + someText,
		strings.ToUpper(someText),
		"ff" + someText[2:], "01" + someText[2:], "0" + someText[1:2] + "_" + someText[3:],
		"00-0123456789abcdef-edcba9876543210-00f067aa0ba902b7-01", // a stroke within the trace
		"00-0123456789abcdeffedcba987654321-000f067aa0ba902b7-01", // a stroke one ahead
		"00-0123456789abcdeffedcba98765432100-0f067aa0ba902b7-01", // a stroke one behind
		"00-0123456789abcdeffedcba9876543210-00f067aa0ba902b-701", // likewise, of the next one
		"00-0123456789abcdeffedcba9876543210-00f067aa0ba902b70-1", // likewise
		"-000123456789abcdeffedcba9876543210-00f067aa0ba902b7-01", // likewise, of the first one
		"00-0123456789abcdeffedcba9876543210-00f067aa0ba902b7-0x", // not of 16 digits
		"00-0x23456789abcdeffedcba9876543210-00f067aa0ba902b7-01", // nor is this
		"00-+123456789abcdeffedcba9876543210-00f067aa0ba902b7-01", // nor a sign ahead
		"00-0123456789abcdeffedcba9876543210-00f067aa_ba902b7-01", // nor one between
		" 0-0123456789abcdeffedcba9876543210-00f067aa0ba902b7-01", // nor blanks
		strings.Repeat("0", 1<<20), strings.Repeat("-", 1<<20), someText[:3] + strings.Repeat("f", 1<<20),
	} {
		wantParse(t, s, api.Parent{}, api.ErrForm)
	}
}

func TestParentThereAndBack(t *testing.T) {
	drawn(1, 20000, func(r *rand.Rand) {
		p := api.Parent{
			Hi: r.Uint64() >> r.Intn(65), Lo: r.Uint64() >> r.Intn(65), Span: r.Uint64() >> r.Intn(65), Flags: uint8(r.Intn(0x100)),
		}
		s, e := printByWords(p)
		wantPrint(t, p, s, e)
		if e == api.OK {
			wantParse(t, s, p, api.OK)
		}
	})
}

// T7: parents that were spoilt, and other texts.
func TestAnyParent(t *testing.T) {
	rights := 0
	drawn(2, 50000, func(r *rand.Rand) {
		b := []byte(someText)
		for range r.Intn(4) {
			at := r.Intn(len(b))
			switch r.Intn(5) {
			case 0:
				b[at] = byte(r.Intn(0x100))
			case 1:
				b = append(b[:at], b[at+1:]...)
			case 2:
				b = append(b, oneOf(r, "0", "-", "f", "A")...)
			case 3:
				copy(b[at:], noughtHalf)
			default:
				b[at] = "0123456789abcdef-"[r.Intn(17)]
			}
		}
		p, e := parseByWords(string(b))
		wantParse(t, string(b), p, e)
		if e == api.OK {
			rights++
		}
	})
	if rights < 5000 || rights > 45000 {
		t.Errorf("%d of 50000 are right: the draws try too little", rights)
	}
}
