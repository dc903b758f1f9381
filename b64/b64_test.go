package b64_test

import (
	"bytes"
	"encoding/base64"
	"encoding/hex"
	"math"
	"math/rand"
	"slices"
	"strings"
	"testing"

	"ostiary/api"
	"ostiary/b64"
)

const (
	standard = "ABCDEFGHIJKLMNOPQRSTUVWXYZabcdefghijklmnopqrstuvwxyz0123456789+/"
	forURLs  = "ABCDEFGHIJKLMNOPQRSTUVWXYZabcdefghijklmnopqrstuvwxyz0123456789-_"
	digits   = "0123456789abcdef"
)

// A coding is a pair of calls of which one undoes the other.
type coding struct {
	name     string
	encode   func([]byte) string
	decode   func(string) ([]byte, api.Errno)
	alphabet string
	expect   func([]byte) string
}

func codings() []coding {
	return []coding{
		{"Base64", b64.Encode, b64.Decode, standard, base64.StdEncoding.EncodeToString},
		{"the URL variant", b64.EncodeURL, b64.DecodeURL, forURLs, base64.RawURLEncoding.EncodeToString},
		{"Base16", b64.Hex, b64.Unhex, digits, hex.EncodeToString},
	}
}

// sample returns n bytes that are the same in every run.
func sample(n int) []byte {
	p := make([]byte, n)
	rand.New(rand.NewSource(int64(n))).Read(p)
	return p
}

// overwrite changes a slice and its spare capacity.
func overwrite(p []byte) {
	p = p[:cap(p)]
	for i := range p {
		p[i] ^= 0xff
	}
}

// spare returns a copy of p whose spare capacity is filled, and a check that nothing of it changed.
func spare(t *testing.T, p []byte) ([]byte, func()) {
	t.Helper()
	all := append(slices.Clone(p), bytes.Repeat([]byte{0xa5}, 200)...)
	before := slices.Clone(all)
	return all[:len(p)], func() {
		t.Helper()
		if !bytes.Equal(all, before) {
			t.Fatal("an argument was changed")
		}
	}
}

// everyText calls visit with every text of at most size of the signs.
func everyText(signs string, size int, visit func(string)) {
	var extend func(string)
	extend = func(text string) {
		visit(text)
		for i := 0; i < len(signs) && len(text) < size; i++ {
			extend(text + signs[i:i+1])
		}
	}
	extend("")
}

// refused checks that a decoder returns that error, and nothing beside it.
func refused(t *testing.T, c coding, s string, want api.Errno) {
	t.Helper()
	if p, e := c.decode(s); e != want || len(p) != 0 {
		t.Fatalf("%s, %q: %x, %d, not %d", c.name, s, p, e, want)
	}
}

func TestP3_1KnownEncodings(t *testing.T) {
	for _, c := range []struct{ p, base64, url, base16 string }{
		{"", "", "", ""},
		{"f", "Zg==", "Zg", "66"},
		{"fo", "Zm8=", "Zm8", "666f"},
		{"foo", "Zm9v", "Zm9v", "666f6f"},
		{"foob", "Zm9vYg==", "Zm9vYg", "666f6f62"},
		{"fooba", "Zm9vYmE=", "Zm9vYmE", "666f6f6261"},
		{"foobar", "Zm9vYmFy", "Zm9vYmFy", "666f6f626172"},
		{"\xfb\xff", "+/8=", "-_8", "fbff"},
		{"\x00", "AA==", "AA", "00"},
		{"\xff\xff\xff", "////", "____", "ffffff"},
	} {
		for i, want := range []string{c.base64, c.url, c.base16} {
			pair := codings()[i]
			if got := pair.encode([]byte(c.p)); got != want {
				t.Errorf("%s of %q: %q, not %q", pair.name, c.p, got, want)
			}
			if got, e := pair.decode(want); string(got) != c.p || e != api.OK {
				t.Errorf("%s, %q: %q, %d", pair.name, want, got, e)
			}
		}
	}
	for _, c := range codings() {
		if c.encode(nil) != "" {
			t.Errorf("%s of nothing", c.name)
		}
	}
}

func TestP3_1EveryLength(t *testing.T) {
	lengths := []int{4095, 4096, 4097, 1 << 20}
	for n := range 200 {
		lengths = append(lengths, n)
	}
	for _, c := range codings() {
		for _, n := range lengths {
			p := sample(n)
			want := c.expect(p)
			if c.encode(p) != want {
				t.Fatalf("%s of %d bytes", c.name, n)
			}
			if got, e := c.decode(want); !bytes.Equal(got, p) || e != api.OK {
				t.Fatalf("%s of %d bytes, decoded: %d", c.name, n, e)
			}
		}
	}
}

func TestP3_1EveryPairOfBytes(t *testing.T) {
	for _, c := range codings() {
		for i := range 1 << 16 {
			p := []byte{byte(i >> 8), byte(i)}
			s := c.encode(p)
			if s != c.expect(p) {
				t.Fatalf("%s of %x: %q", c.name, p, s)
			}
			if got, e := c.decode(s); !bytes.Equal(got, p) || e != api.OK {
				t.Fatalf("%s, %q: %x, %d", c.name, s, got, e)
			}
		}
	}
}

// TestP3_1Short: the length is looked at first, whatever stands in the string.
func TestP3_1Short(t *testing.T) {
	for i, c := range codings() {
		for n := range 40 {
			short := [3]bool{n%4 != 0, n%4 == 1, n%2 != 0}[i]
			for _, sign := range []string{c.alphabet[:1], c.alphabet[15:16], "=", "!", "\n", "\x80"} {
				_, e := c.decode(strings.Repeat(sign, n))
				if short != (e == api.ErrShort) {
					t.Errorf("%s, %d times %q: %d", c.name, n, sign, e)
				}
			}
		}
	}
	for _, s := range []string{"Z", "Zg", "Zg=", "Zm9v\n", "Zg==\n", "Zh", "Zg==="} {
		refused(t, codings()[0], s, api.ErrShort)
	}
}

// TestP3_1EveryByteEverywhere: at each place of a string that is right, only the alphabet's characters are right.
func TestP3_1EveryByteEverywhere(t *testing.T) {
	for _, c := range codings() {
		right := []byte(c.encode([]byte("\x00\x10\x83\x10\x51\x87")))
		for at := range right {
			for b := range 256 {
				s := slices.Clone(right)
				s[at] = byte(b)
				if c.name == "Base64" && b == '=' && at == len(s)-1 {
					continue
				}
				if strings.IndexByte(c.alphabet, byte(b)) < 0 {
					refused(t, c, string(s), api.ErrSign)
				} else if p, e := c.decode(string(s)); e != api.OK || c.expect(p) != string(s) {
					t.Fatalf("%s, %q: %x, %d", c.name, s, p, e)
				}
			}
		}
	}
}

func TestP3_1Signs(t *testing.T) {
	for i, texts := range [][]string{
		{
			"Z===", "====", "=AAA", "Z=g=", "Z=gA", "Zm=v", "==Zg", "Zg==Zg==", "Zm8=Zm9v", "Zg=A", "-_8=", "Zm9 ", "Zm9\n", "Zg=\n", "\x00AAA", "AAA\xc3",
			"Zm9vZ===", "Zm9v====", "========", "Zh=\n", "Zh==Zm9v",
		},
		{"Zg==", "Zm8=", "Zg=", "+/8", "Z=", "==", "Zm9v====", "Zm9v==", "Z\n", "Zh!", "Zh\x80A"},
		{"0A", "A0", "FF", "fF", "0g", "g0", "/0", ":0", "`0", " 0", "0x", "0\n", "\xff\xff", "=="},
	} {
		for _, s := range texts {
			refused(t, codings()[i], s, api.ErrSign)
		}
	}
}

// TestP3_1OneEncoding: of all strings that end a Base64 text with two or three characters, as many are accepted as there are bytes, or pairs of bytes.
func TestP3_1OneEncoding(t *testing.T) {
	for _, c := range codings()[:2] {
		fill := [2]string{"==", "="}
		if c.alphabet == forURLs {
			fill = [2]string{}
		}
		var accepted [2]int
		try := func(s, end string, n int) {
			p, e := c.decode("AAAA" + s + end)
			switch {
			case e == api.ErrForm && len(p) == 0:
			case e == api.OK && "AAAA"+s+end == c.expect(p):
				accepted[n]++
			default:
				t.Fatalf("%s, %q: %x, %d", c.name, s+end, p, e)
			}
		}
		for _, x := range c.alphabet {
			for _, y := range c.alphabet {
				try(string([]rune{x, y}), fill[0], 0)
				for _, z := range c.alphabet {
					try(string([]rune{x, y, z}), fill[1], 1)
				}
			}
		}
		if accepted != [2]int{1 << 8, 1 << 16} {
			t.Errorf("%s accepts %d", c.name, accepted)
		}
	}
}

func TestP3_1UnusedBits(t *testing.T) {
	for i, texts := range [][]string{
		{"Zh==", "ZR==", "Zk==", "Zv==", "Zm9=", "Zm+=", "Zm/=", "Zm9vZh==", "//==", "///=", "AB==", "AAB="},
		{"Zh", "ZR", "Zk", "Zv", "Zm9", "Zm-", "Zm_", "Zm9vZh", "__", "___", "AB", "AAB"},
	} {
		for _, s := range texts {
			refused(t, codings()[i], s, api.ErrForm)
		}
	}
}

// expected is a slow decoder of Base64 or of the URL variant that follows the text of the promise.
func expected(c coding, s string) ([]byte, api.Errno) {
	end := len(s)
	if c.alphabet == standard {
		if len(s)%4 != 0 {
			return nil, api.ErrShort
		}
		switch {
		case strings.HasSuffix(s, "=="):
			end -= 2
		case strings.HasSuffix(s, "="):
			end--
		}
	} else if len(s)%4 == 1 {
		return nil, api.ErrShort
	}
	for i := range end {
		if strings.IndexByte(c.alphabet, s[i]) < 0 {
			return nil, api.ErrSign
		}
	}
	reference := base64.StdEncoding.Strict()
	if c.alphabet == forURLs {
		reference = base64.RawURLEncoding.Strict()
	}
	p, err := reference.DecodeString(s)
	if err != nil {
		return nil, api.ErrForm
	}
	return p, api.OK
}

func TestP3_1EveryShortText(t *testing.T) {
	for _, c := range codings()[:2] {
		everyText("AQgh+-=\n", 6, func(s string) {
			want, wantErrno := expected(c, s)
			if p, e := c.decode(s); e != wantErrno || !bytes.Equal(p, want) {
				t.Fatalf("%s, %q: %x, %d, not %x, %d", c.name, s, p, e, want, wantErrno)
			}
		})
		everyText("AB=", 9, func(s string) {
			want, wantErrno := expected(c, s)
			if p, e := c.decode(s); e != wantErrno || !bytes.Equal(p, want) {
				t.Fatalf("%s, %q: %x, %d, not %x, %d", c.name, s, p, e, want, wantErrno)
			}
		})
	}
}

func TestP3_1Memory(t *testing.T) {
	for _, c := range codings() {
		for n := range 20 {
			p, unchanged := spare(t, sample(n))
			s := c.encode(p)
			unchanged()
			got, _ := c.decode(s)
			overwrite(got)
			if again, e := c.decode(s); e != api.OK || !bytes.Equal(again, p) {
				t.Errorf("%s of %d bytes: a result shares memory with an earlier one", c.name, n)
			}
			overwrite(p)
			if s != c.expect(sample(n)) {
				t.Errorf("%s of %d bytes: a result shares memory with an argument", c.name, n)
			}
		}
	}
}

func TestP3_2Groups(t *testing.T) {
	for _, c := range []struct {
		s    string
		size int
		want []string
	}{
		{"abcdef", 2, []string{"ab", "cd", "ef"}},
		{"abcde", 2, []string{"ab", "cd", "e"}},
		{"abcde", 1, []string{"a", "b", "c", "d", "e"}},
		{"abcde", 4, []string{"abcd", "e"}},
		{"abcde", 5, []string{"abcde"}},
		{"abcde", 6, []string{"abcde"}},
		{"abcde", math.MaxInt, []string{"abcde"}},
		{"abcde", math.MaxInt - 1, []string{"abcde"}},
		{"abcde", 0, []string{"abcde"}},
		{"abcde", -1, []string{"abcde"}},
		{"abcde", math.MinInt, []string{"abcde"}},
		{"", 1, nil},
		{"", 3, nil},
		{"", 0, nil},
		{"", -1, nil},
		{"", math.MaxInt, nil},
		{"", math.MinInt, nil},
		{"aé\nb", 2, []string{"a\xc3", "\xa9\n", "b"}},
		{"\xff\x00\n", 1, []string{"\xff", "\x00", "\n"}},
	} {
		groups := b64.Groups(c.s, c.size)
		for range 2 {
			if got := slices.Collect(groups); !slices.Equal(got, c.want) {
				t.Errorf("%q in pieces of %d: %q", c.s, c.size, got)
			}
		}
	}
}

func TestP3_2GroupsStops(t *testing.T) {
	groups := b64.Groups("abcdefg", 3)
	for stop := 1; stop <= 3; stop++ {
		var got []string
		for piece := range groups {
			got = append(got, piece)
			if len(got) == stop {
				break
			}
		}
		if !slices.Equal(got, []string{"abc", "def", "g"}[:stop]) {
			t.Errorf("stopped at %d: %q", stop, got)
		}
	}
	calls := 0
	groups(func(string) bool { calls++; return false })
	if calls != 1 {
		t.Errorf("%d pieces after the stop", calls-1)
	}
}

// wrapped is Wrap as the document has it, for a size that isn't below 1.
func wrapped(s string, size int) string {
	out := ""
	for i := range len(s) {
		if i > 0 && i%size == 0 {
			out += "\n"
		}
		out += s[i : i+1]
	}
	return out
}

func TestP3_2Wrap(t *testing.T) {
	for n := range 20 {
		s := b64.Encode(sample(n))
		for size := 1; size < 40; size++ {
			got := b64.Wrap(s, size)
			if got != wrapped(s, size) {
				t.Errorf("%q in lines of %d: %q", s, size, got)
			}
			if back, e := b64.Unwrap(got, size); back != s || e != api.OK {
				t.Errorf("%q unwrapped, %d: %q, %d", got, size, back, e)
			}
		}
		for _, size := range []int{0, -1, math.MinInt, math.MaxInt} {
			if got := b64.Wrap(s, size); got != s {
				t.Errorf("%q in lines of %d: %q", s, size, got)
			}
		}
	}
	if got := b64.Wrap("a\n\xffb", 2); got != "a\n\n\xffb" {
		t.Errorf("other bytes: %q", got)
	}
}

// TestP3_2EveryUnwrap: of all short texts, those that Wrap makes are accepted, and no other.
func TestP3_2EveryUnwrap(t *testing.T) {
	for size := 1; size <= 8; size++ {
		made := map[string]string{}
		everyText("A/=", 6, func(s string) { made[wrapped(s, size)] = s })
		everyText("A/=\n-", 6, func(s string) {
			want, ok := made[s]
			wantErrno := api.OK
			if !ok {
				wantErrno = api.ErrForm
			}
			if got, e := b64.Unwrap(s, size); got != want || e != wantErrno {
				t.Fatalf("%q, lines of %d: %q, %d", s, size, got, e)
			}
		})
	}
}

func TestP3_2UnwrapErrors(t *testing.T) {
	for _, c := range []struct {
		s    string
		size int
		want api.Errno
	}{
		{"Zm9v", 0, api.ErrArg},
		{"Zm9v", -1, api.ErrArg},
		{"Zm9v", math.MinInt, api.ErrArg},
		{"", 0, api.ErrArg},
		{"!\n\n", 0, api.ErrArg},
		{"Zm9\nv", 4, api.ErrForm},
		{"Zm9vY\nmFy", 3, api.ErrForm},
		{"Zm9\nvYm\nFy\n", 3, api.ErrForm},
		{"Zm9\nvYm\n", 3, api.ErrForm},
		{"\nZm9", 3, api.ErrForm},
		{"\n", 3, api.ErrForm},
		{"Zm9\n\nvYm", 3, api.ErrForm},
		{"Zm9\r\nvYm", 3, api.ErrForm},
		{"Zm9v", 3, api.ErrForm},
		{"Zm-", 3, api.ErrForm},
		{"Zm_", 3, api.ErrForm},
		{"Zm ", 3, api.ErrForm},
		{"Z\xff", 3, api.ErrForm},
		{"Zé", 3, api.ErrForm},
		{"Zm9\n", math.MaxInt, api.ErrForm},
	} {
		if got, e := b64.Unwrap(c.s, c.size); got != "" || e != c.want {
			t.Errorf("%q, lines of %d: %q, %d", c.s, c.size, got, e)
		}
	}
}

func TestP3_2UnwrapSigns(t *testing.T) {
	for b := range 256 {
		s := string([]byte{'A', byte(b), 'A'})
		want := api.ErrForm
		if strings.IndexByte(standard+"=", byte(b)) >= 0 {
			want = api.OK
		}
		if _, e := b64.Unwrap(s, 4); e != want {
			t.Errorf("%q: %d", s, e)
		}
	}
	for _, s := range []string{"", standard, "=", "=A==", strings.Repeat("Zm9v", 1<<18)} {
		if got, e := b64.Unwrap(s, math.MaxInt); got != s || e != api.OK {
			t.Errorf("%.80q: %.80q, %d", s, got, e)
		}
	}
}

// TestP3_3EverySplit: however the input is cut, each Write returns the characters of the groups that it completes.
func TestP3_3EverySplit(t *testing.T) {
	p := sample(13)
	for cuts := range 1 << (len(p) - 1) {
		var w b64.Stream
		out, from := "", 0
		for at := 1; at <= len(p); at++ {
			if at < len(p) && cuts>>(at-1)&1 == 0 {
				continue
			}
			out += w.Write(p[from:at])
			from = at
			if out != b64.Encode(p[:at-at%3]) {
				t.Fatalf("cuts %b, at %d: %q", cuts, at, out)
			}
		}
		if out += w.Close(); out != base64.StdEncoding.EncodeToString(p) {
			t.Fatalf("cuts %b: %q", cuts, out)
		}
	}
}

func TestP3_3Example(t *testing.T) {
	w := &b64.Stream{}
	for _, c := range []struct{ in, want string }{{"fo", ""}, {"", ""}, {"ob", "Zm9v"}, {"", ""}, {"arfoob", "YmFyZm9v"}} {
		if got := w.Write([]byte(c.in)); got != c.want {
			t.Errorf("Write of %q: %q", c.in, got)
		}
	}
	if got := w.Write(nil); got != "" {
		t.Errorf("Write of nothing: %q", got)
	}
	if got := w.Close(); got != "Yg==" {
		t.Errorf("Close: %q", got)
	}
}

func TestP3_3CloseResets(t *testing.T) {
	var w b64.Stream
	for n := range 20 {
		p := sample(n)
		if got := w.Write(p) + w.Close(); got != base64.StdEncoding.EncodeToString(p) {
			t.Fatalf("%d bytes: %q", n, got)
		}
		if got := w.Close(); got != "" {
			t.Fatalf("a second Close after %d bytes: %q", n, got)
		}
	}
}

func TestP3_3Memory(t *testing.T) {
	var w, other b64.Stream
	out := ""
	for part := range slices.Chunk(sample(100), 7) {
		p, unchanged := spare(t, part)
		out += w.Write(p)
		unchanged()
		overwrite(p)
		other.Write(p)
	}
	if out += w.Close(); out != base64.StdEncoding.EncodeToString(sample(100)) {
		t.Error("a Stream keeps an argument, or hangs on another one")
	}
}

func TestP3_3NilStream(t *testing.T) {
	var w *b64.Stream
	if w.Write([]byte("foobar")) != "" || w.Write(nil) != "" || w.Close() != "" {
		t.Error("a nil Stream answers something")
	}
}

func TestP3_3Long(t *testing.T) {
	var w b64.Stream
	p := sample(1<<20 + 1)
	if got := w.Write(p[:1]) + w.Write(p[1:]) + w.Close(); got != base64.StdEncoding.EncodeToString(p) {
		t.Error("a long input")
	}
}
