package ctx_test

import (
	"fmt"
	"math/rand"
	"regexp"
	"slices"
	"strconv"
	"strings"
	"testing"

	"telemeter/api"
	"telemeter/ctx"
)

// What the chapter words, written another way than the program is: the tests hold one against the other.

var (
	parentText = regexp.MustCompile(`\A00-([0-9a-f]{16})([0-9a-f]{16})-([0-9a-f]{16})-([0-9a-f]{2})\z`)
	memberText = regexp.MustCompile(`\A([-a-z0-9_*/@]{1,60})=([\x21-\x2b\x2d-\x3c\x3e-\x7e]{1,200})\z`)
	thText     = regexp.MustCompile(`\A[0-9a-f]{1,14}\z`)
	rvText     = regexp.MustCompile(`\A[0-9a-f]{14}\z`)
)

func hex(s string) uint64 {
	n, err := strconv.ParseUint(s, 16, 64)
	if err != nil {
		panic(err)
	}
	return n
}

func parseByWords(s string) (api.Parent, api.Errno) {
	found := parentText.FindStringSubmatch(s)
	if found == nil {
		return api.Parent{}, api.ErrForm
	}
	if noughts := strings.Repeat("0", 16); found[1]+found[2] == noughts+noughts || found[3] == noughts {
		return api.Parent{}, api.ErrArg
	}
	return api.Parent{Hi: hex(found[1]), Lo: hex(found[2]), Span: hex(found[3]), Flags: uint8(hex(found[4]))}, api.OK
}

func printByWords(p api.Parent) (string, api.Errno) {
	if p.Hi|p.Lo == 0 || p.Span == 0 {
		return "", api.ErrArg
	}
	return fmt.Sprintf("00-%016x%016x-%016x-%02x", p.Hi, p.Lo, p.Span, p.Flags), api.OK
}

// membersOf are the pieces of a text that may be a state.
func membersOf(s string) []string {
	if s == "" {
		return nil
	}
	return strings.Split(s, ",")
}

func readByWords(s string) (api.Marks, api.Errno) {
	if len(s) > 512 || strings.Count(s, ",") > 31 {
		return api.Marks{}, api.ErrLong
	}
	values := map[string]string{}
	for _, m := range membersOf(s) {
		found := memberText.FindStringSubmatch(m)
		if found == nil || values[found[1]] != "" {
			return api.Marks{}, api.ErrForm
		}
		values[found[1]] = found[2]
	}
	if values["ot"] == "" {
		return api.Marks{}, api.OK
	}
	return marksByWords(values["ot"])
}

func marksByWords(value string) (api.Marks, api.Errno) {
	texts := map[string][]string{}
	for _, part := range strings.Split(value, ";") {
		at := strings.Index(part, ":")
		if at < 0 {
			return api.Marks{}, api.ErrForm
		}
		texts[part[:at]] = append(texts[part[:at]], part[at+1:])
	}
	th, rv := texts["th"], texts["rv"]
	if len(th) > 1 || len(rv) > 1 || len(th) == 1 && !thText.MatchString(th[0]) || len(rv) == 1 && !rvText.MatchString(rv[0]) {
		return api.Marks{}, api.ErrForm
	}
	var m api.Marks
	if len(th) == 1 {
		m.HasT, m.T = true, hex((th[0] + strings.Repeat("0", 14))[:14])
	}
	if len(rv) == 1 {
		m.HasR, m.R = true, hex(rv[0])
	}
	return m, api.OK
}

func othersByWords(s string) []string {
	return slices.DeleteFunc(membersOf(s), func(m string) bool { return strings.HasPrefix(m, "ot=") })
}

func withByWords(s string, m api.Marks) (string, api.Errno) {
	if _, e := readByWords(s); e != api.OK {
		return "", e
	}
	if m.T>>56 > 0 || m.R>>56 > 0 || !m.HasT && m.T > 0 || !m.HasR && m.R > 0 {
		return "", api.ErrArg
	}
	var parts []string
	if m.HasT {
		t := fmt.Sprintf("th:%014x", m.T)
		for len(t) > len("th:0") && strings.HasSuffix(t, "0") {
			t = t[:len(t)-1]
		}
		parts = append(parts, t)
	}
	if m.HasR {
		parts = append(parts, fmt.Sprintf("rv:%014x", m.R))
	}
	all := othersByWords(s)
	if len(parts) > 0 {
		all = slices.Concat([]string{"ot=" + strings.Join(parts, ";")}, all)
	}
	if with := strings.Join(all, ","); len(with) <= 512 && len(all) <= 32 {
		return with, api.OK
	}
	return "", api.ErrLong
}

func wantParse(t *testing.T, s string, want api.Parent, e api.Errno) {
	t.Helper()
	if got, gotE := ctx.Parse(s); got != want || gotE != e {
		t.Errorf("Parse(%q): %+v, %d; want %+v, %d", s, got, gotE, want, e)
	}
}

func wantPrint(t *testing.T, p api.Parent, want string, e api.Errno) {
	t.Helper()
	if got, gotE := ctx.Print(p); got != want || gotE != e {
		t.Errorf("Print(%+v): %q, %d; want %q, %d", p, got, gotE, want, e)
	}
}

func wantRead(t *testing.T, s string, want api.Marks, e api.Errno) {
	t.Helper()
	if got, gotE := ctx.Read(s); got != want || gotE != e {
		t.Errorf("Read(%q): %+v, %d; want %+v, %d", s, got, gotE, want, e)
	}
}

// wantWith: and what With gives is read as it was laid, has all other members in their order, and stays as it is.
func wantWith(t *testing.T, s string, m api.Marks, want string, e api.Errno) {
	t.Helper()
	got, gotE := ctx.With(s, m)
	if got != want || gotE != e {
		t.Errorf("With(%q, %+v): %q, %d; want %q, %d", s, m, got, gotE, want, e)
	}
	if gotE != api.OK {
		return
	}
	wantRead(t, got, m, api.OK)
	if !slices.Equal(othersByWords(got), othersByWords(s)) {
		t.Errorf("With(%q, %+v): %q has other members", s, m, got)
	}
	if again, e := ctx.With(got, m); again != got || e != api.OK {
		t.Errorf("With(%q, %+v): %q, %d; want it as it is", got, m, again, e)
	}
}

// wantAsWorded: what Read and With tell of a text is what the chapter's words tell.
func wantAsWorded(t *testing.T, s string, m api.Marks) {
	t.Helper()
	read, e := readByWords(s)
	wantRead(t, s, read, e)
	with, e := withByWords(s, m)
	wantWith(t, s, m, with, e)
}

// wantState: a text that is a state, or is not, with what With adds to it.
func wantState(t *testing.T, s string, want bool) {
	t.Helper()
	if !want {
		wantRead(t, s, api.Marks{}, api.ErrForm)
		wantWith(t, s, api.Marks{}, "", api.ErrForm)
		wantWith(t, s, api.Marks{HasT: true, T: 1}, "", api.ErrForm)
		return
	}
	m, e := readByWords(s)
	if e != api.OK {
		t.Errorf("%q is told to be none by the words: %d", s, e)
	}
	wantRead(t, s, m, api.OK)
	for _, m := range []api.Marks{{}, marked(1, 2)} {
		wantAsWorded(t, s, m)
	}
}

func ofT(n uint64) api.Marks              { return api.Marks{HasT: true, T: n} }
func ofR(n uint64) api.Marks              { return api.Marks{HasR: true, R: n} }
func marked(t uint64, r uint64) api.Marks { return api.Marks{HasT: true, T: t, HasR: true, R: r} }

func drawn(seed int64, times int, f func(r *rand.Rand)) {
	r := rand.New(rand.NewSource(seed))
	for range times {
		f(r)
	}
}

func oneOf[One any](r *rand.Rand, of ...One) One { return of[r.Intn(len(of))] }

// several are a number of members of different keys.
func several(most int) string {
	var l []string
	for i := range most {
		l = append(l, fmt.Sprintf("k%d=%d", i, i))
	}
	return strings.Join(l, ",")
}

// filled is a state of that many bytes, without marks, in three members.
func filled(size int) string {
	s := "a=" + strings.Repeat("v", 200) + ",b=" + strings.Repeat("w", 200) + ",c="
	return s + strings.Repeat("x", size-len(s))
}
