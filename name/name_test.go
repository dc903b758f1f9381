package name_test

import (
	"bytes"
	"regexp"
	"slices"
	"strings"
	"testing"

	"ostiary/api"
	"ostiary/name"
)

const (
	lastCode = 0x10ffff
	replacer = "\xef\xbf\xbd" // the encoding of fffd
)

// at is a code point and where it begins.
type at struct {
	offset int
	r      rune
}

// decoded returns what Runes yields.
func decoded(s string) []at {
	var out []at
	for offset, r := range name.Runes(s) {
		out = append(out, at{offset, r})
	}
	return out
}

// isCode reports whether UTF-8 can encode r.
func isCode(r rune) bool {
	return r >= 0 && r <= lastCode && (r < 0xd800 || r > 0xdfff)
}

// encoded returns the encoding of a code point by the table of RFC 3629, section 3.
func encoded(r rune) string {
	tail := func(shift int) byte { return 0x80 | byte(r>>shift&0x3f) }
	switch {
	case r < 0x80:
		return string([]byte{byte(r)})
	case r < 0x800:
		return string([]byte{0xc0 | byte(r>>6), tail(0)})
	case r < 0x10000:
		return string([]byte{0xe0 | byte(r>>12), tail(6), tail(0)})
	}
	return string([]byte{0xf0 | byte(r>>18), tail(12), tail(6), tail(0)})
}

// everyCode returns all code points by their encodings.
func everyCode() map[string]rune {
	codes := make(map[string]rune, lastCode+1)
	for r := rune(0); r <= lastCode; r++ {
		if isCode(r) {
			codes[encoded(r)] = r
		}
	}
	return codes
}

// everyText calls visit with every text of at most size of the signs.
func everyText(signs string, size int, visit func(string)) {
	var extend func(string)
	extend = func(text string) {
		visit(text)
		for i := 0; i < len(signs) && len(text) < size; i++ {
			extend(text + signs[i:i+1])
		}
	}
	extend("")
}

// overwrite changes a slice and its spare capacity.
func overwrite(p []byte) {
	p = p[:cap(p)]
	for i := range p {
		p[i] ^= 0xff
	}
}

func TestP4_1Runes(t *testing.T) {
	for _, c := range []struct {
		s    string
		want []at
	}{
		{"", nil},
		{"a", []at{{0, 'a'}}},
		{"aé€😀\xff", []at{{0, 'a'}, {1, 0xe9}, {3, 0x20ac}, {6, 0x1f600}, {10, -1}}},
		{"\x00\x7f", []at{{0, 0}, {1, 0x7f}}},
		{"\ufffd\xff", []at{{0, 0xfffd}, {3, -1}}},
		{"\xff\ufffd", []at{{0, -1}, {1, 0xfffd}}},
		{"\xc0\x80", []at{{0, -1}, {1, -1}}},
		{"\xc1\xbf", []at{{0, -1}, {1, -1}}},
		{"\xe0\x9f\xbf", []at{{0, -1}, {1, -1}, {2, -1}}},
		{"\xf0\x8f\xbf\xbf", []at{{0, -1}, {1, -1}, {2, -1}, {3, -1}}},
		{"\xed\xa0\x80", []at{{0, -1}, {1, -1}, {2, -1}}},
		{"\xed\xbf\xbf", []at{{0, -1}, {1, -1}, {2, -1}}},
		{"\xf4\x90\x80\x80", []at{{0, -1}, {1, -1}, {2, -1}, {3, -1}}},
		{"\xf5\x80\x80\x80", []at{{0, -1}, {1, -1}, {2, -1}, {3, -1}}},
		{"\xe2\x82", []at{{0, -1}, {1, -1}}},
		{"\xe2\x82a", []at{{0, -1}, {1, -1}, {2, 'a'}}},
		{"\xe2\xc3\xa9", []at{{0, -1}, {1, 0xe9}}},
		{"\xf0\x9f\x98€", []at{{0, -1}, {1, -1}, {2, -1}, {3, 0x20ac}}},
		{"\x80a", []at{{0, -1}, {1, 'a'}}},
	} {
		runes := name.Runes(c.s)
		for range 2 {
			var got []at
			for offset, r := range runes {
				got = append(got, at{offset, r})
			}
			if !slices.Equal(got, c.want) {
				t.Errorf("%q: %x", c.s, got)
			}
		}
	}
}

func TestP4_1EveryCodePoint(t *testing.T) {
	for s, r := range everyCode() {
		if got := decoded("<" + s + ">"); !slices.Equal(got, []at{{0, '<'}, {1, r}, {1 + len(s), '>'}}) {
			t.Fatalf("%x: %x", r, got)
		}
		if !name.Valid(s) || name.Valid(s[:len(s)-1]) != (len(s) == 1) || name.Valid(s[1:]) != (len(s) == 1) {
			t.Fatalf("validity of %x, or of a part of it", r)
		}
		if got := name.Append(nil, r); string(got) != s {
			t.Fatalf("encoding of %x: %x", r, got)
		}
	}
}

// TestP4_1EveryShortText: the bytes are those at which a range of the syntax in RFC 3629, section 4, begins or ends.
func TestP4_1EveryShortText(t *testing.T) {
	const signs = "\x00\x7f\x80\x8f\x90\x9f\xa0\xbf\xc0\xc1\xc2\xdf\xe0\xe1\xec\xed\xee\xef\xf0\xf1\xf3\xf4\xf5\xff"
	codes := everyCode()
	everyText(signs, 4, func(s string) {
		var want []at
		valid := true
		for i := 0; i < len(s); {
			next := at{i, -1}
			size := 1
			for n := 1; n <= min(4, len(s)-i); n++ {
				if r, ok := codes[s[i:i+n]]; ok {
					next.r, size = r, n
				}
			}
			want = append(want, next)
			valid = valid && next.r >= 0
			i += size
		}
		if got := decoded(s); !slices.Equal(got, want) {
			t.Fatalf("%x: %x, not %x", s, got, want)
		}
		if name.Valid(s) != valid {
			t.Fatalf("%x: Valid is %v", s, !valid)
		}
	})
}

func TestP4_1EverySurrogate(t *testing.T) {
	for r := rune(0xd800); r <= 0xdfff; r++ {
		if got := decoded(encoded(r)); !slices.Equal(got, []at{{0, -1}, {1, -1}, {2, -1}}) || name.Valid(encoded(r)) {
			t.Fatalf("%x: %x", r, got)
		}
		if got := name.Append(nil, r); string(got) != replacer {
			t.Fatalf("encoding of %x: %x", r, got)
		}
	}
}

func TestP4_1RunesStops(t *testing.T) {
	const s = "aé\xff€"
	want := []at{{0, 'a'}, {1, 0xe9}, {3, -1}, {4, 0x20ac}}
	runes := name.Runes(s)
	for stop := 1; stop <= len(want); stop++ {
		var got []at
		for offset, r := range runes {
			got = append(got, at{offset, r})
			if len(got) == stop {
				break
			}
		}
		if !slices.Equal(got, want[:stop]) {
			t.Errorf("stopped at %d: %x", stop, got)
		}
		calls := 0
		runes(func(int, rune) bool { calls++; return calls < stop })
		if calls != stop {
			t.Errorf("%d code points after the stop", calls-stop)
		}
	}
}

func TestP4_1Valid(t *testing.T) {
	long := strings.Repeat("aé€😀", 1000)
	for s, want := range map[string]bool{
		"": true, "a": true, "aé€😀": true, "\x00": true, replacer: true, "\U0010ffff": true, "\uffff": true, long: true,
		"\xff": false, "a\x80": false, "\xc3": false, "\xc0\xaf": false, "\xed\xa0\x80": false, "\xf4\x90\x80\x80": false, long + "\xe2\x82": false, "\x80" + long: false,
	} {
		if name.Valid(s) != want {
			t.Errorf("%.20q: %v", s, !want)
		}
	}
}

func TestP4_1Append(t *testing.T) {
	for _, p := range [][]byte{nil, {}, []byte("x"), []byte("\xffx"), bytes.Repeat([]byte("y"), 1000)} {
		for r, want := range map[rune]string{
			0: "\x00", 'a': "a", 0x7f: "\x7f", 0x80: "\xc2\x80", 0x7ff: "\xdf\xbf", 0x800: "\xe0\xa0\x80", 0xd7ff: "\xed\x9f\xbf", 0xe000: "\xee\x80\x80",
			0x20ac: "\xe2\x82\xac", 0xfffd: replacer, 0xffff: "\xef\xbf\xbf", 0x10000: "\xf0\x90\x80\x80", 0x10ffff: "\xf4\x8f\xbf\xbf",
			0xd800: replacer, 0xdfff: replacer, 0x110000: replacer, -1: replacer, 1<<31 - 1: replacer, -1 << 31: replacer,
		} {
			if got := name.Append(p, r); string(got) != string(p)+want {
				t.Errorf("%.10q and %x: %.20q", p, r, got)
			}
		}
	}
}

func TestP4_1AppendMemory(t *testing.T) {
	all := []byte("abcdefghijkl")
	for n := range 8 {
		for _, r := range []rune{'x', 0x20ac, 0x1f600, -1} {
			got := name.Append(all[:n], r)
			want := string(got)
			overwrite(got)
			if string(all) != "abcdefghijkl" {
				t.Fatalf("%d bytes and %x: an argument was changed", n, r)
			}
			if again := name.Append(all[:n], r); string(again) != want {
				t.Fatalf("%d bytes and %x: a result shares memory with an earlier one", n, r)
			}
		}
	}
}

// extents are ranges of code points, both ends included, in the order in which the chapter lists them.
type extents [][2]rune

func (l extents) has(r rune) bool {
	return slices.ContainsFunc(l, func(e [2]rune) bool { return e[0] <= r && r <= e[1] })
}

func spaces() extents {
	return extents{{0xa0, 0xa0}, {0x1680, 0x1680}, {0x2000, 0x200a}, {0x202f, 0x202f}, {0x205f, 0x205f}, {0x3000, 0x3000}}
}

func removed() extents {
	return extents{{0xad, 0xad}, {0x200b, 0x200b}, {0x200c, 0x200c}, {0x200d, 0x200d}, {0x2060, 0x2060}, {0xfe00, 0xfe0f}, {0xfeff, 0xfeff}}
}

func prohibited() extents {
	l := extents{{0, 0x1f}, {0x7f, 0x9f}, {0x2028, 0x2028}, {0x2029, 0x2029}, {0x202a, 0x202e}, {0x2066, 0x2069}, {0xe000, 0xf8ff}, {0xf0000, lastCode}, {0xfff9, 0xfffd}, {0xfdd0, 0xfdef}}
	for plane := rune(0); plane <= lastCode; plane += 0x10000 {
		l = append(l, [2]rune{plane + 0xfffe, plane + 0xffff})
	}
	return l
}

func TestP4_2PrepareEveryCodePoint(t *testing.T) {
	asSpace, gone, wrong := spaces(), removed(), prohibited()
	for s, r := range everyCode() {
		want, wantErrno := "<"+s+">", api.OK
		switch {
		case asSpace.has(r):
			want = "< >"
		case gone.has(r):
			want = "<>"
		case wrong.has(r):
			want, wantErrno = "", api.ErrSign
		}
		if got, e := name.Prepare("<" + s + ">"); got != want || e != wantErrno {
			t.Fatalf("%x: %q, %d", r, got, e)
		}
	}
}

func TestP4_2Prepare(t *testing.T) {
	for s, want := range map[string]string{
		"":                            "",
		"user":                        "user",
		"a\u00a0b\u00ad":              "a b",
		"I\u00adX":                    "IX",
		" a  b ":                      " a  b ",
		"\u00a0\u3000":                "  ",
		"\u00ad\u200b\ufeff\ufe0f":    "",
		"É\u0301ß\u2061\u200e":        "É\u0301ß\u2061\u200e",
		"Ⅸ½":                          "Ⅸ½",
		"\U000e0001":                  "\U000e0001",
		"a,b=c":                       "a,b=c",
		strings.Repeat("\u2003€", 99): strings.Repeat(" €", 99),
	} {
		if got, e := name.Prepare(s); got != want || e != api.OK {
			t.Errorf("%q: %q, %d", s, got, e)
		}
	}
}

func TestP4_2PrepareErrors(t *testing.T) {
	for s, want := range map[string]api.Errno{
		"\xff":            api.ErrForm,
		"a\xc0\x80":       api.ErrForm,
		"\xed\xa0\x80":    api.ErrForm,
		"\xe2\x82":        api.ErrForm,
		"\x07\xff":        api.ErrForm,
		"\xff\x07":        api.ErrForm,
		"\x07a\ue000\x80": api.ErrForm,
		"\x07":            api.ErrSign,
		"user\n":          api.ErrSign,
		"\x00user":        api.ErrSign,
		"us\ue000er":      api.ErrSign,
		"\ufffd":          api.ErrSign,
		"a\u00ad\u202e":   api.ErrSign,
		"\U0010ffff":      api.ErrSign,
	} {
		for _, call := range []func(string) (string, api.Errno){name.Prepare, name.Name, name.Password} {
			for _, more := range []string{"", strings.Repeat("a", 100)} {
				if got, e := call(s + more); got != "" || e != want {
					t.Errorf("%q: %q, %d", s+more, got, e)
				}
				if got, e := call(more + s); got != "" || e != want {
					t.Errorf("%q: %q, %d", more+s, got, e)
				}
			}
		}
	}
}

// TestP4_2Sizes: what counts is the bytes after preparation.
func TestP4_2Sizes(t *testing.T) {
	for _, c := range []struct {
		call func(string) (string, api.Errno)
		most int
	}{{name.Name, 32}, {name.Password, 64}} {
		check := func(s, want string, wantErrno api.Errno) {
			t.Helper()
			if got, e := c.call(s); got != want || e != wantErrno {
				t.Errorf("at most %d bytes, %q: %q, %d", c.most, s, got, e)
			}
		}
		check("", "", api.ErrShort)
		check("\u00ad", "", api.ErrShort)
		check(strings.Repeat("\u200b", 99), "", api.ErrShort)
		check(" ", " ", api.OK)
		check("\u00a0", " ", api.OK)
		for n := 1; n < 100; n++ {
			s := strings.Repeat("a", n)
			want, errno := s, api.OK
			if n > c.most {
				want, errno = "", api.ErrLong
			}
			check(s, want, errno)
			check(s+"\u00ad", want, errno)
			check("\ufeff"+strings.ReplaceAll(s, "a", "a\u2060"), want, errno)
		}
		check(strings.Repeat("\u3000", c.most), strings.Repeat(" ", c.most), api.OK)
		check(strings.Repeat("\u3000", c.most+1), "", api.ErrLong)
		check(strings.Repeat("é", c.most/2), strings.Repeat("é", c.most/2), api.OK)
		check(strings.Repeat("é", c.most/2)+"a", "", api.ErrLong)
		check(strings.Repeat("😀", c.most/4), strings.Repeat("😀", c.most/4), api.OK)
		check(strings.Repeat("😀", c.most/4)+"\x07", "", api.ErrSign)
		check("us\u00ader\u00a0Ⅸ", "user Ⅸ", api.OK)
	}
}

func TestP4_2Plain(t *testing.T) {
	const plain = "abcdefghijklmnopqrstuvwxyz0123456789-_"
	for b := range 256 {
		sign := string([]byte{byte(b)})
		want := strings.Contains(plain, sign)
		for _, s := range []string{sign, "a" + sign, sign + "a", "a" + sign + "a", strings.Repeat("a", 31) + sign} {
			if name.Plain(s) != want {
				t.Errorf("%q: %v", s, !want)
			}
		}
	}
	for n := range 100 {
		if name.Plain(strings.Repeat("x", n)) != (n >= 1 && n <= 32) {
			t.Errorf("%d characters", n)
		}
	}
	for s, want := range map[string]bool{"a-b_0": true, plain[:32]: true, plain[6:]: true, plain[5:]: false, "": false, "A": false, "é": false, "a\u00ad": false, "\uff41": false, "a b": false} {
		if name.Plain(s) != want {
			t.Errorf("%q: %v", s, !want)
		}
	}
}

func TestP4_3Escape(t *testing.T) {
	for s, want := range map[string]string{
		"": "", "user": "user", "a=b,c": "a=3Db=2Cc", "=": "=3D", ",": "=2C", "=,": "=3D=2C", ",,==": "=2C=2C=3D=3D", "=2C": "=3D2C", "=3D": "=3D3D", "é\xff": "é\xff",
	} {
		if got := name.Escape(s); got != want {
			t.Errorf("%q escaped: %q", s, got)
		}
		if got, e := name.Unescape(want); got != s || e != api.OK {
			t.Errorf("%q unescaped: %q, %d", want, got, e)
		}
	}
}

// TestP4_3EveryShortText: of all short texts, those that Escape makes are accepted, and no other.
func TestP4_3EveryShortText(t *testing.T) {
	const signs = "=,23CDc\xff"
	made := map[string]string{}
	everyText(signs, 5, func(s string) {
		want := ""
		for i := range len(s) {
			switch s[i] {
			case '=':
				want += "=3D"
			case ',':
				want += "=2C"
			default:
				want += s[i : i+1]
			}
		}
		if got := name.Escape(s); got != want {
			t.Fatalf("%q escaped: %q", s, got)
		}
		made[want] = s
	})
	bad := regexp.MustCompile(`=($|[^23]|2$|3$|2[^C]|3[^D])`)
	everyText(signs, 5, func(s string) {
		want, ok := made[s]
		wantErrno := api.OK
		switch {
		case bad.MatchString(s):
			wantErrno = api.ErrForm
		case strings.Contains(s, ","):
			wantErrno = api.ErrSign
		case !ok:
			t.Fatalf("%q has no fault, but Escape doesn't make it", s)
		}
		if got, e := name.Unescape(s); got != want || e != wantErrno {
			t.Fatalf("%q unescaped: %q, %d, not %d", s, got, e, wantErrno)
		}
	})
	for s := range made {
		if got, e := name.Unescape(s); got != made[s] || e != api.OK {
			t.Fatalf("%q unescaped: %q, %d", s, got, e)
		}
	}
}

func TestP4_3UnescapeErrors(t *testing.T) {
	for s, want := range map[string]api.Errno{
		"=": api.ErrForm, "a=": api.ErrForm, "=2": api.ErrForm, "=3": api.ErrForm, "=2c": api.ErrForm, "=3d": api.ErrForm, "=2D": api.ErrForm, "=3C": api.ErrForm,
		"==2C": api.ErrForm, "=2=2C": api.ErrForm, "=2C=": api.ErrForm, "=20": api.ErrForm, "= 2C": api.ErrForm, "=é": api.ErrForm,
		",=": api.ErrForm, "=,": api.ErrForm, "a,b=2c": api.ErrForm, "=2,C": api.ErrForm,
		",": api.ErrSign, "a,b": api.ErrSign, "a=2C,": api.ErrSign, ",=3D": api.ErrSign,
	} {
		if got, e := name.Unescape(s); got != "" || e != want {
			t.Errorf("%q: %q, %d", s, got, e)
		}
	}
}

func TestP4_3PrepareTwice(t *testing.T) {
	var all strings.Builder
	for r := rune(0); r <= lastCode; r++ {
		s, e := name.Prepare(encoded(r))
		if e != api.OK {
			continue
		}
		if again, e := name.Prepare(s); again != s || e != api.OK {
			t.Fatalf("%x, prepared twice: %q, %d", r, again, e)
		}
		all.WriteString(encoded(r))
	}
	s, e := name.Prepare(all.String())
	if again, e2 := name.Prepare(s); s == "" || again != s || e != api.OK || e2 != api.OK {
		t.Error("all code points, prepared twice")
	}
}
