package ctx_test

import (
	"fmt"
	"math/rand"
	"strings"
	"testing"

	"telemeter/api"
)

func TestRead(t *testing.T) {
	wantRead(t, "a=1,ot=th:8;rv:00000000000001", marked(1<<55, 1), api.OK)
	wantRead(t, "", api.Marks{}, api.OK)
	wantRead(t, "a=1", api.Marks{}, api.OK)
	wantRead(t, "a=1,b=2,c=3", api.Marks{}, api.OK)
	wantRead(t, "ot=th:c", ofT(3<<54), api.OK)
	wantRead(t, "ot=th:0", ofT(0), api.OK)
	wantRead(t, "ot=rv:0123456789abcd", ofR(0x0123456789abcd), api.OK)
	wantRead(t, "ot=rv:0123456789abcd;th:ef,z=9", marked(0xef<<48, 0x0123456789abcd), api.OK)
	wantRead(t, "ot=x:y", api.Marks{}, api.OK)
	wantRead(t, "ott=th:8,o=th:8,to=th:8", api.Marks{}, api.OK) // keys beside it
	wantRead(t, "a=th:8,b=ot", api.Marks{}, api.OK)
	wantRead(t, "th=8,rv=00000000000001", api.Marks{}, api.OK)
}

// It may be the first, one between, or the last.
func TestPlaceOfMarks(t *testing.T) {
	for _, s := range []string{"ot=th:8", "ot=th:8,a=1,b=2", "a=1,ot=th:8,b=2", "a=1,b=2,ot=th:8"} {
		wantRead(t, s, ofT(1<<55), api.OK)
		wantState(t, s, true)
	}
}

func TestPieces(t *testing.T) {
	for s, want := range map[string]bool{
		"":        true,
		"a=1":     true,
		"a=1,b=2": true,
		",":       false, ",,": false,
		",a=1": false, "a=1,": false, ",a=1,": false, "a=1,,b=2": false,
		"ot=th:8,": false, ",ot=th:8": false, "ot=th:8,,a=1": false,
		"a": false, "a,b=1": false, "b=1,a": false, "ot": false, "ot,a=1": false,
		"=": false, "a=": false, "=1": false, "a=1,b=": false, "a=1,=2": false, "ot=": false, "ot=,a=1": false,
		"a==": false, "a==1": false, "a=1=": false, "a=1=2": false, "=a=1": false, "==": false, "ot=th:8=": false, "ot==th:8": false,
		"a=1 ,b=2": false, "a=1, b=2": false, " a=1": false, "a =1": false, "a= 1": false, "a=1 ": false,
		"a=1\n": false, "a=1;b=2": false, "a=1;b:2": true,
	} {
		wantState(t, s, want)
	}
}

func TestSignsOfKeys(t *testing.T) {
	for c := range 0x100 {
		one := string([]byte{byte(c)})
		want := strings.Contains("abcdefghijklmnopqrstuvwxyz0123456789_-*/@", one)
		if one == "," || one == "=" {
			want = false
		}
		for _, key := range []string{one, one + "b", "a" + one, "a" + one + "b", one + one, strings.Repeat("a", 59) + one} {
			wantState(t, key+"=1", want)
			wantState(t, "first=1,"+key+"=1,last=1", want)
		}
	}
	wantState(t, "é=1", false)
	wantState(t, "Ot=th:8", false)
	for _, c := range []struct {
		size int
		want bool
	}{{1, true}, {2, true}, {59, true}, {60, true}, {61, false}, {62, false}, {200, false}, {500, false}} {
		for _, sign := range []string{"a", "0", "@"} {
			wantState(t, strings.Repeat(sign, c.size)+"=1", c.want)
			if c.size < 500 {
				wantState(t, "ot=th:1,"+strings.Repeat(sign, c.size)+"=1", c.want)
			}
		}
	}
}

func TestSignsOfValues(t *testing.T) {
	for c := range 0x100 {
		one := string([]byte{byte(c)})
		want := c >= 0x21 && c <= 0x7e && one != "," && one != "="
		for _, value := range []string{one, one + "b", "a" + one, "a" + one + "b", one + one, strings.Repeat("a", 199) + one} {
			wantState(t, "k="+value, want)
			wantState(t, "y=1,k="+value+",z=1", want)
		}
		wantState(t, "ot=x:"+one, want && one != ";") // a part without `:` then
		wantState(t, "ot="+one+":y", want && one != ";")
	}
	wantState(t, "k=é", false)
	for _, c := range []struct {
		size int
		want bool
	}{{0, false}, {1, true}, {2, true}, {199, true}, {200, true}, {201, false}, {202, false}, {400, false}} {
		wantState(t, "k="+strings.Repeat("~", c.size), c.want)
		wantState(t, "y=1,k="+strings.Repeat("!", c.size)+",z=1", c.want)
		if c.size > 2 {
			wantState(t, "ot=x:"+strings.Repeat("!", c.size-2), c.want)
			wantState(t, "ot="+strings.Repeat(":", c.size), c.want)
		}
	}
}

func TestKeysThatAreTwice(t *testing.T) {
	for _, s := range []string{
		"a=1,a=1", "a=1,a=2", "a=1,b=2,a=3", "b=1,a=2,a=3", "a=1,b=2,c=3,b=4",
		"ot=th:8,ot=th:8", "ot=x:y,ot=x:y", "ot=th:8,a=1,ot=rv:00000000000001",
		several(31) + ",k0=0", several(30) + ",k29=x",
		strings.Repeat("k", 60) + "=1," + strings.Repeat("k", 60) + "=1",
	} {
		wantState(t, s, false)
	}
	for _, s := range []string{
		"a=1,b=1", "a=1,aa=1", "aa=1,a=1", "a=b,b=a", "a=1,a-=1", "ot=th:8,oot=th:8,ot1=th:8", "a=1,ot=x:1,b=1",
		strings.Repeat("k", 60) + "=1," + strings.Repeat("k", 59) + "=1",
	} {
		wantState(t, s, true)
	}
}

func TestHowManyMembers(t *testing.T) {
	for _, most := range []int{1, 2, 30, 31, 32} {
		wantState(t, several(most), true)
	}
	for _, most := range []int{33, 34, 60} {
		wantRead(t, several(most), api.Marks{}, api.ErrLong)
		wantWith(t, several(most), api.Marks{}, "", api.ErrLong)
		wantWith(t, several(most), ofT(1), "", api.ErrLong)
	}
	wantRead(t, several(31)+",ot=th:8", ofT(1<<55), api.OK)
	wantRead(t, several(32)+",ot=th:8", api.Marks{}, api.ErrLong)
}

func TestHowManyBytes(t *testing.T) {
	for _, size := range []int{450, 511, 512} {
		wantRead(t, filled(size), api.Marks{}, api.OK)
		wantWith(t, filled(size), api.Marks{}, filled(size), api.OK)
		wantRead(t, "ot=th:8,"+filled(size-8), ofT(1<<55), api.OK)
	}
	for _, size := range []int{513, 514, 600} {
		wantRead(t, filled(size), api.Marks{}, api.ErrLong)
		wantWith(t, filled(size), api.Marks{}, "", api.ErrLong)
		wantRead(t, "ot=th:8,"+filled(size-8), api.Marks{}, api.ErrLong)
	}
	wantRead(t, strings.Repeat("a=1,", 1<<20), api.Marks{}, api.ErrLong)
	wantWith(t, strings.Repeat("é", 1<<20), ofT(1), "", api.ErrLong)
}

// Both bounds come first, whatever the pieces are: and up to them it is the pieces that are told to be wrong.
func TestBoundsAheadOfForm(t *testing.T) {
	for _, c := range []struct {
		s string
		e api.Errno
	}{
		{strings.Repeat(",", 31), api.ErrForm},
		{strings.Repeat(",", 32), api.ErrLong},
		{strings.Repeat(",", 512), api.ErrLong},
		{strings.Repeat(",", 513), api.ErrLong},
		{strings.Repeat("x", 512), api.ErrForm},
		{strings.Repeat("x", 513), api.ErrLong},
		{strings.Repeat("=", 512), api.ErrForm},
		{strings.Repeat("=", 513), api.ErrLong},
		{strings.Repeat(" ", 512), api.ErrForm},
		{strings.Repeat("\x00", 513), api.ErrLong},
		{strings.Repeat("é", 256), api.ErrForm},
		{strings.Repeat("é", 256) + "x", api.ErrLong}, // bytes, not signs
		{strings.Repeat("é", 300), api.ErrLong},
		{strings.Repeat(",", 31) + strings.Repeat("x", 481), api.ErrForm},
		{strings.Repeat(",", 31) + strings.Repeat("x", 482), api.ErrLong},
		{strings.Repeat(",", 32) + strings.Repeat("x", 481), api.ErrLong},
		{several(32) + ",", api.ErrLong},
		{several(31) + ",", api.ErrForm},
		{"," + several(32), api.ErrLong},
		{"," + several(31), api.ErrForm},
		{several(32) + ",k0=1", api.ErrLong},
		{several(31) + ",k0=1", api.ErrForm},
		{several(32) + ",ot=th:x", api.ErrLong},
		{several(31) + ",ot=th:x", api.ErrForm},
		{"ot=th:x," + filled(512-8), api.ErrForm},
		{"ot=th:x," + filled(513-8), api.ErrLong},
		{"a=" + strings.Repeat("v", 201) + strings.Repeat(",", 32), api.ErrLong},
	} {
		wantRead(t, c.s, api.Marks{}, c.e)
		for _, m := range []api.Marks{{}, ofT(1), {T: 1}, ofT(1 << 56)} { // what With is given comes behind
			wantWith(t, c.s, m, "", c.e)
		}
	}
}

// The value of ot: which texts are parts.
func TestParts(t *testing.T) {
	for value, want := range map[string]bool{
		"x:y": true, "x:": true, ":y": true, ":": true, "::": true, ":::": true, "x::y": true, "x:y:z": true,
		"x": false, "th": false, "rv": false, "th8": false,
		";": false, ";;": false, ":;:": true, ":;": false, ";:": false,
		"x:y;": false, ";x:y": false, "x:y;;z:w": false, "x:y;z": false, "z;x:y": false,
		"x:y;x:y": true, "x:1;x:2;x:3": true, // of others there may be several
		"th:8;": false, ";th:8": false, "th:8;x": false, "x;th:8": false, "th:8;x:": true, "th:8;:": true,
		"TH:8": true, "Th:zz": true, "tH:8;th:8": true, // other names, whatever is behind them
		"th!:zz": true, "!th:zz": true, "thth:zz": true, "t:h:zz": true, ":th:zz": true, "th/rv:zz": true, "rvth:": true,
		"th:": false, "rv:": false, "th::8": false, "th:8:": false, "th:8:1": false, "rv::00000000000001": false,
		"rv:00000000000001:": false,
	} {
		wantState(t, "ot="+value, want)
		wantState(t, "a=1,ot="+value+",b=2", want)
		wantState(t, "a="+value+",ot=th:1", true) // of another key nothing is asked
	}
	wantRead(t, "ot=TH:8;RV:00000000000001", api.Marks{}, api.OK)
	wantRead(t, "ot=x:th:8", api.Marks{}, api.OK)
	wantRead(t, "ot=:th:8;th:4", ofT(1<<54), api.OK)
	wantRead(t, "ot=x:1;th:8;x:2;rv:00000000000001;x:3", marked(1<<55, 1), api.OK)
}

func TestThresholds(t *testing.T) {
	for text, want := range map[string]uint64{
		"0": 0, "00": 0, "00000000000000": 0,
		"1": 1 << 52, "8": 1 << 55, "f": 15 << 52, "01": 1 << 48, "10": 1 << 52, "80": 1 << 55, "08": 1 << 51,
		"80000000000000": 1 << 55, "8000000000000": 1 << 55, "0000000000001": 16, "00000000000001": 1,
		"0123456789abcd": 0x0123456789abcd, "123456789abcd": 0x123456789abcd0, "ffffffffffffff": 1<<56 - 1,
	} {
		for _, s := range []string{"ot=th:" + text, "a=1,ot=x:y;th:" + text, "ot=th:" + text + ";x:y,b=2"} {
			wantRead(t, s, ofT(want), api.OK)
			wantState(t, s, true)
		}
	}
	for size := range 20 {
		want := size >= 1 && size <= 14
		for _, digit := range []string{"0", "1", "f"} {
			wantState(t, "ot=th:"+strings.Repeat(digit, size), want)
		}
	}
	for _, text := range []string{"g", "A", "F", "1A", "aB", "0x1", "+1", "-1", "1_0", "1.", "1g", "g1", "8:", "8/", "@", "`", "000000000000000", "800000000000000", "G0000000000000"} {
		wantState(t, "ot=th:"+text, false)
		wantState(t, "ot=rv:00000000000001;th:"+text, false)
	}
}

func TestDrawnNumbers(t *testing.T) {
	for text, want := range map[string]uint64{
		"00000000000000": 0, "00000000000001": 1, "10000000000000": 1 << 52, "80000000000000": 1 << 55,
		"0123456789abcd": 0x0123456789abcd, "fedcba98765432": 0xfedcba98765432, "ffffffffffffff": 1<<56 - 1,
	} {
		for _, s := range []string{"ot=rv:" + text, "a=1,ot=x:y;rv:" + text, "ot=rv:" + text + ";x:y,b=2"} {
			wantRead(t, s, ofR(want), api.OK)
			wantState(t, s, true)
		}
	}
	for size := range 20 {
		for _, digit := range []string{"0", "1", "f"} {
			wantState(t, "ot=rv:"+strings.Repeat(digit, size), size == 14)
		}
	}
	for _, text := range []string{"0000000000000g", "A0000000000000", "0000000000000F", "0x000000000001", "+0000000000001", "0000000_000001", "0000000000000:"} {
		wantState(t, "ot=rv:"+text, false)
		wantState(t, "ot=th:8;rv:"+text, false)
	}
}

// Each byte as a digit, of both.
func TestEachDigit(t *testing.T) {
	for c := range 0x100 {
		one := string([]byte{byte(c)})
		want := strings.Contains("0123456789abcdef", one)
		for _, s := range []string{"ot=th:" + one, "ot=th:1" + one, "ot=th:" + one + "1", "ot=rv:000000" + one + "0000000", "ot=rv:0000000000000" + one} {
			wantState(t, s, want)
		}
	}
}

func TestSeveral(t *testing.T) {
	for value, want := range map[string]bool{
		"th:8;th:8": false, "th:8;th:4": false, "th:0;th:0": false, "th:8;x:y;th:8": false, "th:8;th:": false, "th:;th:8": false,
		"rv:00000000000001;rv:00000000000001": false, "rv:00000000000000;x:y;rv:00000000000000": false,
		"th:8;rv:00000000000001;th:8": false, "rv:00000000000001;th:8;rv:00000000000001": false,
		"th:8;rv:00000000000001": true, "rv:00000000000001;th:8": true, "th:0;rv:00000000000000": true,
	} {
		wantState(t, "ot="+value, want)
		wantState(t, "a=1,ot="+value+",b=2", want)
	}
}

func TestWith(t *testing.T) {
	wantWith(t, "a=1", ofT(1<<52), "ot=th:1,a=1", api.OK)
	wantWith(t, "", api.Marks{}, "", api.OK)
	wantWith(t, "", ofT(0), "ot=th:0", api.OK)
	wantWith(t, "", ofR(0), "ot=rv:00000000000000", api.OK)
	wantWith(t, "", marked(0, 0), "ot=th:0;rv:00000000000000", api.OK)
	wantWith(t, "", marked(1, 1), "ot=th:00000000000001;rv:00000000000001", api.OK)
	wantWith(t, "", marked(1<<55, 1<<55), "ot=th:8;rv:80000000000000", api.OK)
	wantWith(t, "", ofT(3<<54), "ot=th:c", api.OK)
	wantWith(t, "", ofT(1<<48), "ot=th:01", api.OK)
	wantWith(t, "", ofT(0x10f<<44), "ot=th:10f", api.OK)
	wantWith(t, "", ofT(0x10), "ot=th:0000000000001", api.OK)
	wantWith(t, "", ofT(0x0f00f0), "ot=th:000000000f00f", api.OK)
	wantWith(t, "", ofR(0x0123456789abcd), "ot=rv:0123456789abcd", api.OK)
	wantWith(t, "b=2,a=1", api.Marks{}, "b=2,a=1", api.OK)
	wantWith(t, "b=2,a=1", ofR(1), "ot=rv:00000000000001,b=2,a=1", api.OK)
}

// Its own ot goes, wherever it stands, with all its parts.
func TestWithInPlace(t *testing.T) {
	for s, others := range map[string]string{
		"ot=th:8":         "",
		"ot=th:8,a=1":     ",a=1",
		"a=1,ot=th:8":     ",a=1",
		"a=1,ot=th:8,b=2": ",a=1,b=2",
		"b=2,ot=x:y;th:8;rv:00000000000001;z:,a=1": ",b=2,a=1",
		"z=1,y=2,ot=:,x=3,w=4":                     ",z=1,y=2,x=3,w=4",
		"ott=1,ot=x:y,oot=2":                       ",ott=1,oot=2",
		"a=th:8;rv:00000000000002,ot=x:y":          ",a=th:8;rv:00000000000002",
		"a=ot:1,ot=x:y":                            ",a=ot:1",
	} {
		wantWith(t, s, api.Marks{}, strings.TrimPrefix(others, ","), api.OK)
		wantWith(t, s, ofT(1<<54), "ot=th:4"+others, api.OK)
		wantWith(t, s, ofR(2), "ot=rv:00000000000002"+others, api.OK)
		wantWith(t, s, marked(1<<54, 2), "ot=th:4;rv:00000000000002"+others, api.OK)
	}
}

func TestMarks(t *testing.T) {
	const whole = 1 << 56
	for _, c := range []struct {
		m    api.Marks
		want bool
	}{
		{api.Marks{}, true},
		{ofT(whole - 1), true}, {ofT(whole), false}, {ofT(whole + 1), false}, {ofT(1 << 63), false}, {ofT(1<<64 - 1), false},
		{ofR(whole - 1), true}, {ofR(whole), false}, {ofR(whole + 1), false}, {ofR(1 << 63), false}, {ofR(1<<64 - 1), false},
		{marked(whole-1, whole-1), true}, {marked(whole, 0), false}, {marked(0, whole), false}, {marked(whole, whole), false},
		{api.Marks{T: 1}, false}, {api.Marks{R: 1}, false}, {api.Marks{T: 1, R: 1}, false}, {api.Marks{T: whole}, false}, {api.Marks{R: whole}, false},
		{api.Marks{HasT: true, R: 1}, false}, {api.Marks{HasR: true, T: 1}, false}, {api.Marks{HasT: true, T: 1, R: 1}, false},
		{api.Marks{HasR: true, R: 1, T: 1}, false}, {api.Marks{HasT: true, T: 1 << 55, R: 1 << 55}, false},
		{api.Marks{HasT: true}, true}, {api.Marks{HasR: true}, true}, {api.Marks{HasT: true, HasR: true}, true},
	} {
		for _, s := range []string{"", "a=1", "ot=th:8", "a=1,ot=rv:00000000000001,b=2", several(32), filled(512)} {
			want, e := withByWords(s, c.m)
			if !c.want {
				want, e = "", api.ErrArg // ahead of what is too long then
			}
			wantWith(t, s, c.m, want, e)
		}
	}
	wantWith(t, "", ofT(whole-1), "ot=th:ffffffffffffff", api.OK)
	wantWith(t, "", marked(whole-1, whole-1), "ot=th:ffffffffffffff;rv:ffffffffffffff", api.OK)
}

// Each of the 14 digits as the last one that is not a nought.
func TestNoughtsBehindThresholds(t *testing.T) {
	for digit := range 14 {
		for _, n := range []uint64{1, 8, 15} {
			want := strings.Repeat("0", 13-digit) + fmt.Sprintf("%x", n)
			wantWith(t, "", ofT(n<<(4*digit)), "ot=th:"+want, api.OK)
			wantRead(t, "ot=th:"+want, ofT(n<<(4*digit)), api.OK)
			wantWith(t, "", ofR(n<<(4*digit)), "ot=rv:"+want+strings.Repeat("0", digit), api.OK)
		}
	}
}

// The other members fill the bytes, up to one that is too many.
func TestWithTooManyBytes(t *testing.T) {
	for _, m := range []api.Marks{ofT(0), ofT(1 << 52), ofT(1), ofR(1), marked(1<<55, 1), marked(1, 1)} {
		ahead, _ := withByWords("", m)
		fits := 512 - len(ahead+",")
		for _, size := range []int{fits - 1, fits} {
			wantWith(t, filled(size), m, ahead+","+filled(size), api.OK)
		}
		for _, size := range []int{fits + 1, fits + 2, 511, 512} {
			wantWith(t, filled(size), m, "", api.ErrLong)
			wantWith(t, filled(size), api.Marks{}, filled(size), api.OK)
		}
	}
	long, short := "ot=th:00000000000001;rv:00000000000001,", "ot=th:8,"
	wantWith(t, long+filled(512-len(long)), ofT(1<<55), short+filled(512-len(long)), api.OK)
	wantWith(t, short+filled(512-len(short)), marked(1, 1), "", api.ErrLong)
	wantWith(t, short+filled(512-len(long)), marked(1, 1), long+filled(512-len(long)), api.OK)
	wantWith(t, short+filled(513-len(long)), marked(1, 1), "", api.ErrLong)
	wantWith(t, short+filled(512-len(short)), api.Marks{}, filled(512-len(short)), api.OK)
}

// The other members fill the 32.
func TestWithTooManyMembers(t *testing.T) {
	for _, m := range []api.Marks{ofT(1 << 52), ofR(1), marked(0, 0)} {
		ahead, _ := withByWords("", m)
		wantWith(t, several(31), m, ahead+","+several(31), api.OK)
		wantWith(t, several(32), m, "", api.ErrLong)
		wantWith(t, several(31)+",ot=x:y", m, ahead+","+several(31), api.OK)
		wantWith(t, "ot=x:y,"+several(31), m, ahead+","+several(31), api.OK)
	}
	wantWith(t, several(32), api.Marks{}, several(32), api.OK)
	wantWith(t, "ot=th:8,"+several(31), api.Marks{}, several(31), api.OK)
}

// T7: states of what matters, strung together by chance.
func TestAnyState(t *testing.T) {
	rights, longs, args := 0, 0, 0
	drawn(3, 100000, func(r *rand.Rand) {
		s, m := drawnState(r), drawnMarks(r)
		wantAsWorded(t, s, m)
		switch _, e := withByWords(s, m); e {
		case api.OK:
			rights++
		case api.ErrLong:
			longs++
		case api.ErrArg:
			args++
		}
	})
	if rights < 10000 || longs < 1000 || args < 1000 || rights > 60000 {
		t.Errorf("%d right, %d long, %d with wrong marks: the draws try too little", rights, longs, args)
	}
}

// T7: any bytes.
func TestAnyBytes(t *testing.T) {
	drawn(4, 50000, func(r *rand.Rand) {
		b := make([]byte, r.Intn(oneOf(r, 8, 20, 600)))
		for i := range b {
			b[i] = oneOf(r, byte(r.Intn(0x100)), "aot=,:;th8rv0"[r.Intn(13)])
		}
		wantAsWorded(t, string(b), drawnMarks(r))
	})
}

// What is asked of a state changes nothing for the next one.
func TestNothingIsKept(t *testing.T) {
	wantRead(t, "a=1,ot=th:8", ofT(1<<55), api.OK)
	wantRead(t, "a=1,a=1", api.Marks{}, api.ErrForm)
	wantRead(t, "a=1,ot=th:8", ofT(1<<55), api.OK)
	wantWith(t, "a=1", ofT(1<<55), "ot=th:8,a=1", api.OK)
	wantWith(t, "a=1", api.Marks{}, "a=1", api.OK)
}

func drawnMarks(r *rand.Rand) api.Marks {
	number := func() uint64 {
		n := r.Uint64() >> 8 >> r.Intn(57) << (4 * r.Intn(14))
		if r.Intn(20) > 0 {
			n &= 1<<56 - 1
		}
		return n
	}
	m := api.Marks{HasT: r.Intn(2) == 0, HasR: r.Intn(2) == 0}
	if m.HasT || r.Intn(20) == 0 {
		m.T = number()
	}
	if m.HasR || r.Intn(20) == 0 {
		m.R = number()
	}
	return m
}

func drawnDigits(r *rand.Rand, size int) string {
	b := make([]byte, size)
	for i := range b {
		b[i] = "0123456789abcdef"[r.Intn(16)]
	}
	return string(b)
}

func drawnPart(r *rand.Rand) string {
	switch r.Intn(12) {
	case 0, 1, 2, 3:
		return "th:" + drawnDigits(r, 1+r.Intn(14))
	case 4, 5, 6, 7:
		return "rv:" + drawnDigits(r, 14)
	case 8:
		return oneOf(r, "th", "rv", "x", "") + ":" + drawnDigits(r, r.Intn(17))
	case 9:
		return oneOf(r, "", "th", "rv", "x", ":", "th:8g", "th:8:", "rv:A0000000000000")
	default:
		return drawnDigits(r, r.Intn(5)) + ":" + oneOf(r, "", ":", "x", "th:8", "~!\"")
	}
}

func drawnMember(r *rand.Rand) string {
	if r.Intn(6) == 0 {
		var parts []string
		for range 1 + r.Intn(3) {
			parts = append(parts, drawnPart(r))
		}
		return "ot=" + strings.Join(parts, ";")
	}
	key := drawnDigits(r, 1+r.Intn(4)) + oneOf(r, "", "_", "-*/@", "zyx", "ot")
	value := oneOf(r, "1", "!~", "a:b;c", "th:8", "x-/@*+")
	switch r.Intn(150) {
	case 0:
		return key
	case 1:
		return key + "="
	case 2:
		return "=" + value
	case 3:
		return key + "=" + value + "=" + value
	case 4:
		return ""
	case 5:
		return key + oneOf(r, "A", " ", "é", "+", ".", ":", "a") + "=" + value
	case 6:
		return key + "=" + value + oneOf(r, " ", "\x7f", "\x00", "é", "\t", "a")
	case 7, 8, 9, 10, 11, 12:
		return strings.Repeat("k", 57+r.Intn(6)) + "=" + value
	case 13, 14, 15, 16, 17, 18, 19, 20, 21:
		return key + "=" + strings.Repeat("v", 185+r.Intn(18))
	}
	return key + "=" + value
}

func drawnState(r *rand.Rand) string {
	var members []string
	for range r.Intn(oneOf(r, 3, 6, 12, 36)) {
		members = append(members, drawnMember(r))
	}
	return strings.Join(members, ",")
}
