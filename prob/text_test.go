package prob_test

import (
	"math"
	"math/rand"
	"strings"
	"testing"

	"telemeter/api"
	"telemeter/prob"
)

func noughts(size int) string { return strings.Repeat("0", size) }

func TestDigits(t *testing.T) {
	for _, c := range []struct {
		t    uint64
		want string
	}{
		{0, "0"},
		{1, "00000000000001"},
		{0xf, "0000000000000f"},
		{0x10, "0000000000001"},
		{0x100, "000000000001"},
		{1 << 52, "1"},
		{1 << 55, "8"},
		{3 << 54, "c"},
		{0x0f << 48, "0f"},
		{0xf0 << 48, "f"},
		{0x101 << 44, "101"},
		{1 << 48, "01"},
		{0x0123456789abcd, "0123456789abcd"},
		{0xdcba9876543210, "dcba987654321"},
		{0xfedcba98765432, "fedcba98765432"},
		{0x10000000000001, "10000000000001"},
		{0x00000100000000, "000001"},
		{0xaaaaaaaaaaaaab, "aaaaaaaaaaaaab"},
		{whole - 0x10, "fffffffffffff"},
		{whole - 2, "fffffffffffffe"},
		{whole - 1, "ffffffffffffff"},
	} {
		wantDigits(t, c.t, c.want, api.OK)
		wantParse(t, c.want, c.t, api.OK)
	}
	for _, threshold := range []uint64{whole, whole + 1, 3 << 55, 2 * whole, 16 * whole, 1 << 63, math.MaxUint64 - 1, math.MaxUint64} {
		wantDigits(t, threshold, "", api.ErrArg)
	}
}

// Each digit at each place, alone and among others.
func TestEachDigit(t *testing.T) {
	for at := range 14 {
		for d, sign := range []byte("0123456789abcdef") {
			for _, fill := range []string{"0", "1", "f"} {
				b := []byte(strings.Repeat(fill, 14))
				b[at] = sign
				threshold, e := parseByWords(string(b))
				if e != api.OK || threshold>>(4*(13-at))%16 != uint64(d) {
					t.Errorf("%s by the words: %#x, %d", b, threshold, e)
				}
				wantParse(t, string(b), threshold, api.OK)
				want, _ := digitsByWords(threshold)
				wantDigits(t, threshold, want, api.OK)
			}
		}
	}
}

// wantThereAndBack: a threshold's text is read as it, with noughts behind it, too, up to 14 digits.
func wantThereAndBack(t *testing.T, threshold uint64) {
	t.Helper()
	s, e := digitsByWords(threshold)
	wantDigits(t, threshold, s, e)
	if e != api.OK {
		return
	}
	for size := range 18 {
		if len(s)+size <= 14 {
			wantParse(t, s+noughts(size), threshold, api.OK)
		} else {
			wantParse(t, s+noughts(size), 0, api.ErrForm)
		}
	}
}

func TestThereAndBack(t *testing.T) {
	for _, threshold := range edges() {
		wantThereAndBack(t, threshold)
	}
	for shift := range 56 {
		wantThereAndBack(t, 1<<shift)
		wantThereAndBack(t, whole-1<<shift)
	}
	drawn(21, 20000, func(r *rand.Rand) {
		wantThereAndBack(t, anyThreshold(r))
		wantThereAndBack(t, anyNumber(r))
	})
}

func TestParseSizes(t *testing.T) {
	wantParse(t, "", 0, api.ErrForm)
	for size := 1; size < 80; size++ {
		for _, digit := range []string{"0", "1", "8", "9", "a", "f"} {
			s := strings.Repeat(digit, size)
			if size > 14 {
				wantParse(t, s, 0, api.ErrForm)
				wantParse(t, noughts(size-1)+digit, 0, api.ErrForm) // noughts ahead make it no shorter
				wantParse(t, digit+noughts(size-1), 0, api.ErrForm)
				continue
			}
			for _, s := range []string{s, noughts(size-1) + digit, digit + noughts(size-1)} {
				want, e := parseByWords(s)
				wantParse(t, s, want, e)
			}
		}
	}
	wantParse(t, "0", 0, api.OK)
	wantParse(t, noughts(13), 0, api.OK)
	wantParse(t, noughts(14), 0, api.OK)
	wantParse(t, noughts(15), 0, api.ErrForm)
	wantParse(t, "1", 1<<52, api.OK)
	wantParse(t, "11", 0x11<<48, api.OK)
	wantParse(t, "1111111111111", 0x11111111111110, api.OK)
	wantParse(t, "11111111111111", 0x11111111111111, api.OK)
	wantParse(t, "111111111111111", 0, api.ErrForm)
	wantParse(t, "ffffffffffffff", whole-1, api.OK)
	wantParse(t, "fffffffffffffff", 0, api.ErrForm)
	wantParse(t, "100000000000000", 0, api.ErrForm) // 2^56 has no text
	wantParse(t, "08", 1<<51, api.OK)
	wantParse(t, "80", 1<<55, api.OK)
	wantParse(t, "080", 1<<51, api.OK)
	wantParse(t, "00000000000001", 1, api.OK)
	wantParse(t, "000000000000010", 0, api.ErrForm)
	wantParse(t, strings.Repeat("0", 1<<20), 0, api.ErrForm)
	wantParse(t, strings.Repeat("f", 1<<20), 0, api.ErrForm)
	wantParse(t, strings.Repeat("\xff", 1<<20), 0, api.ErrForm)
}

// Each byte, alone, ahead, behind, and between digits: all but the small digits are wrong.
func TestEachByte(t *testing.T) {
	for c := range 0x100 {
		one := string([]byte{byte(c)})
		right := c >= '0' && c <= '9' || c >= 'a' && c <= 'f'
		for _, s := range []string{
			one, one + one, one + "8", "8" + one, "8" + one + "8", one + noughts(13), noughts(13) + one, "1234567" + one + "abcdef",
		} {
			want, e := parseByWords(s)
			if right != (e == api.OK) {
				t.Errorf("%q by the words: %d", s, e)
			}
			wantParse(t, s, want, e)
		}
	}
}

func TestParseOfOtherTexts(t *testing.T) {
	for _, s := range []string{
		" ", "  ", " 8", "8 ", " 8 ", "8 8", "\t8", "8\t", "8\n", "\n8", "8\r\n", "8\x00", "\x008", " " + noughts(13), noughts(13) + " ",
		"+", "-", "+8", "-8", "8+", "8-", "--8", "+0", "-0", "0-", "-" + noughts(13), "+" + noughts(13),
		"0x8", "0X8", "x8", "8h", "#8", "0o7", "1_0", "1,0", "1.0", ".8", "8.", "8e-1", "1:", ":1", "th:8", "8;", "'8'", `"8"`, "8/1",
		"A", "C", "F", "aB", "Ab", "ABCDEF", "G", "g", "8g", "g8", "z", "FFFFFFFFFFFFFF", "fffffffffffffF", "Ffffffffffffff",
		"é", "8é", "٨", "８", "a\u0301", "½", "\xff", "8\xff", "\xc3", "none", "all", "nil", "0 0",
	} {
		wantParse(t, s, 0, api.ErrForm)
	}
}

// In one way but for noughts: what is read is laid as the same text without those at its end.
func TestWhatIsReadIsLaid(t *testing.T) {
	drawn(22, 20000, func(r *rand.Rand) {
		b := make([]byte, 1+r.Intn(14))
		for i := range b {
			b[i] = "0123456789abcdef00000000"[r.Intn(24)]
		}
		threshold, e := prob.Parse(string(b))
		if e != api.OK || threshold >= whole {
			t.Errorf("Parse(%q): %#x, %d", b, threshold, e)
			return
		}
		s, e := prob.Digits(threshold)
		if e != api.OK || s+noughts(14-len(s)) != string(b)+noughts(14-len(b)) || s != "0" && strings.HasSuffix(s, "0") {
			t.Errorf("Parse(%q): %#x; its Digits are %q, %d", b, threshold, s, e)
		}
	})
}

// T7: texts that were spoilt, and others.
func TestAnyText(t *testing.T) {
	rights := 0
	drawn(23, 50000, func(r *rand.Rand) {
		b := make([]byte, r.Intn(18))
		for i := range b {
			b[i] = "0123456789abcdef"[r.Intn(16)]
		}
		for range r.Intn(3) {
			if len(b) > 0 {
				b[r.Intn(len(b))] = byte(r.Intn(0x100))
			}
		}
		want, e := parseByWords(string(b))
		wantParse(t, string(b), want, e)
		if e == api.OK {
			rights++
		}
	})
	if rights < 5000 || rights > 45000 {
		t.Errorf("%d of 50000 are right: the draws try too little", rights)
	}
}
