package knows_test

import (
	"bytes"
	"encoding/base64"
	"encoding/hex"
	"fmt"
	"math"
	"math/rand"
	"regexp"
	"slices"
	"strings"
	"testing"

	"ostiary/api"
	"ostiary/box"
	"ostiary/knows"
)

// made returns a mind.
func made(t *testing.T, b *box.Box, secrets ...string) *knows.Mind {
	t.Helper()
	var l [][]byte
	for _, s := range secrets {
		l = append(l, []byte(s))
	}
	m, e := knows.New(b, l...)
	if m == nil || e != api.OK {
		t.Fatal(e)
	}
	return m
}

// handle returns the handle of term n as a text.
func handle(n int) string {
	return string(box.Handle(n))
}

// std, raw, url and digits are what a text may be encoded as.
func std(s string) string    { return base64.StdEncoding.EncodeToString([]byte(s)) }
func raw(s string) string    { return base64.RawStdEncoding.EncodeToString([]byte(s)) }
func url(s string) string    { return base64.RawURLEncoding.EncodeToString([]byte(s)) }
func digits(s string) string { return hex.EncodeToString([]byte(s)) }

// found checks what is found in a text.
func found(t *testing.T, text string, want ...int) {
	t.Helper()
	p := []byte(text)
	got := knows.Found(p)
	if !slices.Equal(got, want) {
		t.Errorf("%q: %d, not %d", text, got, want)
	}
	if string(p) != text {
		t.Errorf("%q has changed", text)
	}
}

// makes checks which of the box's terms are derivable.
func makes(t *testing.T, b *box.Box, m *knows.Mind, want ...int) {
	t.Helper()
	if all := slices.Collect(m.All()); !slices.Equal(all, want) {
		t.Errorf("%d, not %d", all, want)
	}
	for n := -1; n <= b.Len()+1; n++ {
		if m.Made(n) != slices.Contains(want, n) {
			t.Errorf("%d: %v, not in %d", n, m.Made(n), want)
		}
	}
}

// The box must be a symbolic one.
func TestP28_1New(t *testing.T) {
	for _, b := range []*box.Box{nil, box.New(false)} {
		for _, secrets := range [][][]byte{nil, {nil}, {[]byte("a"), []byte("b")}} {
			if m, e := knows.New(b, secrets...); m != nil || e != api.ErrNone {
				t.Error(m, e)
			}
		}
	}
	b := box.New(true)
	b.Mac([]byte("key"), nil)
	m := made(t, b, "key")
	if m.Known() != nil || m.Made(1) {
		t.Error(m.Known())
	}
	makes(t, b, m)
	if b.Len() != 1 {
		t.Error(b.Len())
	}
}

// A mind keeps its secrets, whatever becomes of the argument.
func TestP28_1Secrets(t *testing.T) {
	b := box.New(true)
	b.Hash([]byte("a secret"))
	b.Hash([]byte("a xxxxxx"))
	list := [][]byte{[]byte("secret"), nil, {}, []byte("b")}
	m, _ := knows.New(b, list...)
	copy(list[0], "xxxxxx")
	list[1] = []byte("a")
	list[3] = nil
	makes(t, b, m, 2)
	for text, want := range map[string]bool{"": true, "a": true, "secret": false, "xsecretx": false, "secre": true, "Secret": true, "xxxxxx": true, "abc": false} {
		if m.Text([]byte(text)) != want {
			t.Errorf("%q", text)
		}
	}
	b.Hash(nil)
	makes(t, b, made(t, b), 1, 2, 3)
	makes(t, b, made(t, b, ""), 1, 2, 3)
}

// someText returns bytes in which much can be found.
func someText(r *rand.Rand, most int) []byte {
	var out []byte
	for range r.Intn(6) {
		n := oneOf(r, 0, 1, 2, 3, 65, 0x2b2f3d41, r.Intn(most+1), math.MaxUint32)
		h := handle(n)
		text := oneOf(r, h, h, h+h, "x"+h, h+"yz", h+h[:31], "")
		text = oneOf(r, text, text, text, text[:r.Intn(len(text)+1)], text[r.Intn(len(text)+1):])
		out = append(out, oneOf(r, text, std(text), raw(text), url(text), digits(text), strings.ToUpper(digits(text)), digits(digits(text)), std(std(text)))...)
		out = append(out, oneOf(r, "", "", "=", "==", ",", "a", "-", "\x00", "\xf1", "\u00e4", "\xff", ".", "key", "ke")...)
	}
	return out
}

// oneOf returns one of these.
func oneOf[T any](r *rand.Rand, l ...T) T { return l[r.Intn(len(l))] }

// slowRuns are the maximal runs.
func slowRuns(text []byte) []string {
	var out []string
	for _, p := range regexp.MustCompile(`[A-Za-z0-9+/_-]+`).FindAll(text, -1) {
		out = append(out, string(p))
	}
	return out
}

// slowHandles adds the numbers of the handles that occur in a text literally.
func slowHandles(p []byte, set map[int]bool) {
	for at := 0; at+32 <= len(p); at++ {
		n := int(p[at+28])<<24 | int(p[at+29])<<16 | int(p[at+30])<<8 | int(p[at+31])
		if string(p[at:at+28]) == "\xf1TRM"+strings.Repeat("\x00", 24) && n > 0 {
			set[n] = true
			at += 31
		}
	}
}

// slowFound reads a text as the chapter says, by Go's own library.
func slowFound(text []byte) []int {
	set := map[int]bool{}
	slowHandles(text, set)
	for _, run := range slowRuns(text) {
		padded := run
		for len(padded)%4 != 0 {
			padded += "="
		}
		if p, e := base64.StdEncoding.Strict().DecodeString(padded); e == nil {
			slowHandles(p, set)
		}
		if p, e := base64.RawURLEncoding.Strict().DecodeString(run); e == nil {
			slowHandles(p, set)
		}
		if p, e := hex.DecodeString(run); e == nil && strings.ToLower(run) == run {
			slowHandles(p, set)
		}
	}
	var out []int
	for n := range set {
		out = append(out, n)
	}
	slices.Sort(out)
	return out
}

// Runs yields the maximal runs of characters of either variant.
func TestP28_1Runs(t *testing.T) {
	for _, c := range []struct {
		text string
		want []string
	}{
		{"", nil}, {"=", nil}, {"a", []string{"a"}}, {"=a", []string{"a"}}, {"a=", []string{"a"}}, {"a=b", []string{"a", "b"}}, {"Zg==", []string{"Zg"}},
		{"p=ab+/-_09,r=x", []string{"p", "ab+/-_09", "r", "x"}}, {"a b", []string{"a", "b"}}, {"\x00a\xffb\u00e4c", []string{"a", "b", "c"}}, {"AZ[az{`@/:09", []string{"AZ", "az", "/", "09"}},
		{"a\xc3", []string{"a"}}, {"\xe2\x82a", []string{"a"}}, {"a.b-c", []string{"a", "b-c"}},
	} {
		if got := slices.Collect(knows.Runs([]byte(c.text))); !slices.Equal(got, c.want) {
			t.Errorf("%q: %q, not %q", c.text, got, c.want)
		}
	}
	for b := range 256 {
		for _, text := range [][]byte{{byte(b)}, {'a', byte(b)}, {byte(b), 'a'}, {'a', byte(b), 'b'}, {0xc3, byte(b)}, {byte(b), 0x80, 'a'}} {
			if got, want := slices.Collect(knows.Runs(text)), slowRuns(text); !slices.Equal(got, want) {
				t.Errorf("%q: %q, not %q", text, got, want)
			}
		}
	}
	r := rand.New(rand.NewSource(281))
	for range 3000 {
		text := make([]byte, r.Intn(40))
		r.Read(text)
		if r.Intn(2) == 0 {
			text = someText(r, 9)
		}
		if got, want := slices.Collect(knows.Runs(text)), slowRuns(text); !slices.Equal(got, want) {
			t.Errorf("%q: %q, not %q", text, got, want)
		}
	}
}

// The iterator is of the text as it was, can be ranged over again, and stops when it is stopped.
func TestP28_1RunsMemory(t *testing.T) {
	text := []byte("a=bc=d")
	kept := slices.Clone(text)
	runs := knows.Runs(text)
	if !bytes.Equal(text, kept) {
		t.Error("the argument has changed")
	}
	copy(text, "======")
	for range 2 {
		for stop, want := range [][]string{{"a"}, {"a", "bc"}, {"a", "bc", "d"}, {"a", "bc", "d"}} {
			var got []string
			for run := range runs {
				got = append(got, run)
				if len(got) > stop {
					break
				}
			}
			if !slices.Equal(got, want) {
				t.Errorf("%d: %q", stop, got)
			}
		}
	}
	if knows.Runs(nil) == nil || slices.Collect(knows.Runs(nil)) != nil {
		t.Error("nothing has runs")
	}
}

// Found finds handles that occur literally, and those within any of the encodings of a run.
func TestP28_1Found(t *testing.T) {
	h := handle(7)
	found(t, "")
	found(t, h, 7)
	found(t, "abc"+h+"xyz", 7)
	found(t, h[1:])
	found(t, h[:31])
	found(t, handle(0))
	found(t, handle(math.MaxUint32), math.MaxUint32)
	found(t, handle(3)+handle(1)+handle(3)+"x"+handle(2), 1, 2, 3)
	found(t, handle(1000)+handle(20), 20, 1000)
	for _, code := range []func(string) string{std, raw, url, digits} {
		for front := range 4 {
			for back := range 4 {
				found(t, code(strings.Repeat("a", front)+h+strings.Repeat("b", back)), 7)
			}
		}
		found(t, "p="+code(h)+",x", 7)
		found(t, "\x00"+code(handle(9))+" "+code(h)+handle(8), 7, 8, 9)
		found(t, code(handle(9)+"x"+h+h), 7, 9)
		found(t, code(h[1:]))
		found(t, code(h[:31]))
		found(t, code(h)[1:])
		found(t, code(h[:16])+"="+code(h[16:]))
		found(t, code(handle(0)))
	}
}

// Each run is decoded whole, and only where it is valid.
func TestP28_1FoundRuns(t *testing.T) {
	h := handle(7)
	found(t, raw(h), 7) // padded with one =
	found(t, std(h), 7)
	found(t, raw(h+"x"), 7)
	found(t, raw(h+"xy"), 7)
	found(t, raw(h)+"==", 7)
	found(t, raw(h)+",", 7)
	found(t, "x"+raw(h))
	found(t, "xxxx"+raw(h), 7)
	found(t, raw(h)+"A", 7)
	found(t, raw(h)+"AA")   // too long by one
	found(t, "-"+raw(h))    // of the other variant, and too long by one
	found(t, "x"+digits(h)) // an odd number of digits
	found(t, "xx"+digits(h))
	found(t, "00"+digits(h), 7)
	found(t, digits(h)+"0")
	found(t, strings.ToUpper(digits(h)))
	found(t, digits(digits(h)))
	found(t, raw(raw(h)))
	found(t, raw(digits(h)))

	spoiled := []byte(raw(h)) // an unused bit is not zero
	spoiled[len(spoiled)-1]++
	found(t, string(spoiled))

	both := "\xfb\xf0" + h + "a" // begins with + and / in one variant, and with - and _ in the other
	if raw(both)[:1] != "+" || url(both)[:1] != "-" {
		t.Fatal(raw(both), url(both))
	}
	found(t, raw(both), 7)
	found(t, url(both), 7)
	found(t, raw(both)+"_")
	found(t, raw(both)+"-xyz")
	found(t, handle(65)+digits(h), 65) // the handle ends with a character of the run
	found(t, handle(65)+raw("abc"+h), 65)
	found(t, handle(10)+digits(h), 7, 10)
	found(t, handle(0x2b)+"aaa"+raw(h)+"=", 7, 0x2b)
}

// Found does what a slow reading of the chapter does.
func TestP28_1FoundSlow(t *testing.T) {
	r := rand.New(rand.NewSource(282))
	sizes := map[int]int{}
	for range 20000 {
		text := someText(r, 300)
		kept := slices.Clone(text)
		got, want := knows.Found(text), slowFound(text)
		if !slices.Equal(got, want) {
			t.Fatalf("%q: %d, not %d", text, got, want)
		}
		if !bytes.Equal(text, kept) {
			t.Fatalf("%q has changed", kept)
		}
		sizes[len(want)]++
	}
	for n := range 5 {
		if sizes[n] < 50 {
			t.Error("too few texts", sizes)
		}
	}
}

// See makes the handles of a text known, as Found finds them, also those of no term.
func TestP28_1See(t *testing.T) {
	b := box.New(true)
	for range 3 {
		b.Mac([]byte("key"), []byte{byte(b.Len())})
	}
	m := made(t, b, "key")
	m.See(nil)
	m.See([]byte("text"))
	makes(t, b, m)
	p := []byte("v=" + std(handle(3)) + handle(2) + digits(handle(90)))
	kept := slices.Clone(p)
	m.See(p)
	if !bytes.Equal(p, kept) {
		t.Error("the argument has changed")
	}
	clear(p)
	if got := m.Known(); !slices.Equal(got, []int{2, 3, 90}) {
		t.Error(got)
	}
	if got := slices.Collect(m.All()); !slices.Equal(got, []int{2, 3}) || m.Made(1) || !m.Made(90) || m.Made(91) {
		t.Error(got)
	}
	m.See([]byte(handle(1) + handle(1) + handle(math.MaxUint32)))
	if got := m.Known(); !slices.Equal(got, []int{1, 2, 3, 90, math.MaxUint32}) || !m.Made(math.MaxUint32) || m.Made(math.MaxUint32+2) {
		t.Error(got)
	}
	if b.Len() != 3 {
		t.Error(b.Len())
	}
}

// What is derived is not observed.
func TestP28_2Known(t *testing.T) {
	b := box.New(true)
	x := b.Hash([]byte("a"))
	y := b.Mac([]byte("key"), nil)
	z, _ := b.Turn(x, y)
	m := made(t, b, "key")
	makes(t, b, m, 1)
	if m.Known() != nil {
		t.Error(m.Known())
	}
	m.See(z)
	makes(t, b, m, 1, 2, 3)
	if got := m.Known(); !slices.Equal(got, []int{3}) {
		t.Error(got)
	}
	got := m.Known()
	clear(got[:cap(got)])
	if !slices.Equal(m.Known(), []int{3}) {
		t.Error("a result was kept")
	}
}

// A Hash is derivable if its text is, a Mac if its key and text are, a Stretch if its password and salt are.
func TestP28_2Kinds(t *testing.T) {
	b := box.New(true)
	secret := string(b.Mac([]byte("key"), nil)) // 1
	public := string(b.Hash())                  // 2
	for _, c := range []struct {
		text string
		ok   bool
	}{
		{"", true}, {"a", true}, {"ke", true}, {"key", false}, {"a key b", false}, {secret, false}, {"a" + secret + "b", false}, {public, true}, {"a" + public + "b", true},
		{std(secret), false}, {url(secret), false}, {digits(secret), false}, {std(public), true}, {digits(public), true}, {"x" + digits(secret), true}, {digits("key"), true},
		{public + secret, false}, {secret + public, false}, {"ke" + public + "y", true}, {public + "key", false}, {"key" + public, false}, {public + "key" + public, false}, {public + public + "ke", true},
		{handle(0), true}, {handle(99999), false}, {secret[:31], true}, {secret[1:], true}, {digits(public) + "key", false},
	} {
		for _, other := range []string{"", "b", public, digits(public)} {
			for what, tag := range map[string][]byte{
				"hash": b.Hash([]byte(c.text)), "key": b.Mac([]byte(c.text), []byte(other)), "text": b.Mac([]byte(other), []byte(c.text)),
				"pass": stretch(b, c.text, other), "salt": stretch(b, other, c.text),
			} {
				n, _ := box.Number(tag)
				if got := made(t, b, "key").Made(n); got != c.ok {
					t.Errorf("%s %q %q: %v", what, c.text, other, got)
				}
			}
		}
	}
}

// stretch returns a stretched password.
func stretch(b *box.Box, pass, salt string) []byte {
	out, _ := b.Stretch([]byte(pass), []byte(salt), 1)
	return out
}

// Nothing follows from a Hash, a Mac or a Stretch that was observed.
func TestP28_2OneWay(t *testing.T) {
	b := box.New(true)
	x := b.Mac([]byte("key"), nil)      // 1
	h := b.Hash(x)                      // 2
	y := b.Mac(x, []byte("a"))          // 3
	z := b.Mac([]byte("a"), x)          // 4
	s := stretch(b, string(x), "a")     // 5
	u := stretch(b, "key", "a")         // 6
	v := b.Mac(u, []byte("Client Key")) // 7
	m := made(t, b, "key")
	makes(t, b, m)
	for i, p := range [][]byte{h, y, z, s, v} {
		m.See(p)
		makes(t, b, m, []int{2, 3, 4, 5, 7}[:i+1]...)
	}
	m.See(u)
	makes(t, b, m, 2, 3, 4, 5, 6, 7)
	m.See(x)
	makes(t, b, m, 1, 2, 3, 4, 5, 6, 7)
}

// turn returns the Turn of tags.
func turn(t *testing.T, b *box.Box, tags ...[]byte) []byte {
	t.Helper()
	out := make([]byte, 32)
	for _, tag := range tags {
		var e api.Errno
		if out, e = b.Turn(out, tag); e != api.OK {
			t.Fatal(e)
		}
	}
	return out
}

// A Turn is derivable if all its terms are; and if it is and all its terms but one are, so is that one.
func TestP28_2Turn(t *testing.T) {
	for size := 2; size <= 4; size++ {
		for held := range 1 << (size + 1) {
			b := box.New(true)
			var tags [][]byte
			for n := range size {
				tags = append(tags, b.Mac([]byte("key"), []byte{byte(n)}))
			}
			sum := turn(t, b, tags...)
			whole, _ := box.Number(sum)
			m := made(t, b, "key")
			count := 0
			for n := range size {
				if held>>n&1 == 1 {
					m.See(tags[n])
					count++
				}
			}
			if held>>size == 1 {
				m.See(sum)
				count++
			}
			for n := range size {
				if want := held>>n&1 == 1 || count == size; m.Made(n+1) != want {
					t.Errorf("%d %b: term %d: %v", size, held, n, !want)
				}
			}
			if want := held>>size == 1 || count == size; m.Made(whole) != want {
				t.Errorf("%d %b: %v", size, held, !want)
			}
		}
	}
}

// A Turn of one term and a mask is as derivable as that term, and one of no term is always derivable.
func TestP28_2TurnMask(t *testing.T) {
	mask := bytes.Repeat([]byte{5}, 32)
	b := box.New(true)
	x := b.Mac([]byte("key"), nil)
	y := turn(t, b, x, mask)
	m := made(t, b, "key")
	makes(t, b, m)
	m.See(x)
	makes(t, b, m, 1, 2)
	m = made(t, b, "key")
	m.See(y)
	makes(t, b, m, 1, 2)

	b = box.New(true)
	odd, _ := b.Turn(mask, append([]byte("\xf4QWH\x05"), bytes.Repeat([]byte{5}, 27)...))
	if b.Len() != 1 {
		t.Fatalf("%x", odd)
	}
	makes(t, b, made(t, b, "key"), 1)

	b = box.New(true)
	turn(t, b, b.Mac([]byte("key"), nil), b.Mac([]byte("key"), []byte("a")), []byte("key"+strings.Repeat("x", 29)))
	m = made(t, b, "key") // the mask is no text
	m.See(box.Handle(1))
	m.See(box.Handle(2))
	if !m.Made(b.Len()) {
		t.Error("a Turn isn't derivable, though its terms are")
	}
}

// One step follows from another, in any direction, as far as it goes.
func TestP28_2Chains(t *testing.T) {
	const size = 60
	for seen := range size + 1 {
		b := box.New(true)
		var secrets, links [][]byte
		for n := range size + 1 {
			secrets = append(secrets, b.Mac([]byte("key"), []byte{byte(n)}))
		}
		for n := range size {
			links = append(links, turn(t, b, secrets[size-n], secrets[size-n-1]))
		}
		deep := secrets[0]
		for range 40 {
			deep = b.Hash(deep)
		}
		last := b.Len()
		m := made(t, b, "key")
		for _, link := range links {
			m.See(link)
		}
		if got := slices.Collect(m.All()); len(got) != size {
			t.Fatal(got)
		}
		m.See(secrets[seen])
		if got := slices.Collect(m.All()); len(got) != last || !m.Made(last) {
			t.Error(seen, len(got), last)
		}
	}
}

// A full box of terms that all follow from the last one is worked out in no time.
func TestP28_2Large(t *testing.T) {
	b := box.New(true)
	const half = api.MaxTerms / 2
	for n := range half {
		b.Mac([]byte("key"), []byte(fmt.Sprint(n)))
	}
	for n := range half - 1 {
		turn(t, b, box.Handle(n+1), box.Handle(n+2))
	}
	m := made(t, b, "key")
	for n := half + 1; n <= b.Len(); n++ {
		m.See(box.Handle(n))
	}
	if m.Made(1) || m.Made(half) {
		t.Error("too much is derivable")
	}
	m.See(box.Handle(half))
	if got := slices.Collect(m.All()); len(got) != b.Len() || b.Len() != api.MaxTerms-1 {
		t.Error(len(got), b.Len())
	}
}

// Handles may be observed, and occur in terms, before their terms are in the box.
func TestP28_2Later(t *testing.T) {
	b := box.New(true)
	m := made(t, b, "key")
	b.Hash(box.Handle(3)) // 1
	m.See(box.Handle(2))
	makesOnly(t, m, nil, []int{2})
	b.Mac([]byte("key"), nil) // 2
	makesOnly(t, m, []int{2}, []int{2})
	b.Hash([]byte("a")) // 3
	makesOnly(t, m, []int{1, 2, 3}, []int{1, 2, 3})
	b.Mac([]byte("key"), []byte("a")) // 4
	turn(t, b, box.Handle(2), box.Handle(4))
	makesOnly(t, m, []int{1, 2, 3}, []int{1, 2, 3})
	m.See(box.Handle(5))
	makesOnly(t, m, []int{1, 2, 3, 4, 5}, []int{1, 2, 3, 4, 5})
	b.Hash(box.Handle(6)) // of itself
	makesOnly(t, m, []int{1, 2, 3, 4, 5}, []int{1, 2, 3, 4, 5})
	m.See(box.Handle(6))
	makesOnly(t, m, []int{1, 2, 3, 4, 5, 6}, []int{1, 2, 3, 4, 5, 6})
}

// makesOnly checks which terms are derivable, and which of the first handles.
func makesOnly(t *testing.T, m *knows.Mind, terms, numbers []int) {
	t.Helper()
	if all := slices.Collect(m.All()); !slices.Equal(all, terms) {
		t.Errorf("%d, not %d", all, terms)
	}
	for n := range 9 {
		if m.Made(n) != slices.Contains(numbers, n) {
			t.Errorf("%d: %v", n, m.Made(n))
		}
	}
}

// A text is derivable if all handles found in it are and no secret is between them; Says asks for the handles of terms alone.
func TestP28_2Text(t *testing.T) {
	b := box.New(true)
	b.Hash([]byte("a"))       // 1 is derivable
	b.Mac([]byte("key"), nil) // 2 is not
	m := made(t, b, "key", "p\x00w")
	one, two, none := handle(1), handle(2), handle(3)
	for _, c := range []struct {
		text       string
		text2, say bool
	}{
		{"", true, true}, {"a", true, true}, {"key", false, true}, {"xkeyx", false, true}, {"p\x00w", false, true}, {"pw", true, true},
		{one, true, true}, {two, false, false}, {none, false, true}, {handle(0), true, true},
		{"x" + one + "y", true, true}, {one + "key", false, true}, {"key" + one, false, true}, {one + "key" + one, false, true}, {"ke" + one + "y", true, true}, {"k" + one + "ey" + one, true, true},
		{one + two, false, false}, {two + one, false, false}, {one + none, false, true}, {none + one + two, false, false},
		{std(one), true, true}, {std(two), false, false}, {url(none), false, true}, {digits(one) + " " + digits(two), false, false}, {digits(two) + digits(one), false, false},
		{std("key"), true, true}, {"TRM", true, true}, {two[:31], true, true}, {"key" + two, false, false},
	} {
		p := []byte(c.text)
		if m.Text(p) != c.text2 || m.Says(p) != c.say || string(p) != c.text {
			t.Errorf("%q: %v %v", c.text, m.Text(p), m.Says(p))
		}
	}
	m = made(t, b, "TRM", "\x00\x00")
	if !m.Text([]byte(one)) || m.Text([]byte(one+"TRM")) || m.Text([]byte("\xf1TRM"+one)) || m.Text([]byte(handle(0))) {
		t.Error("the bytes of a handle are no secret, and others are")
	}
}

// slowMind derives by the chapter's words, again and again until nothing more follows.
type slowMind struct {
	box     *box.Box
	secrets []string
	known   map[int]bool
}

// plain reports whether the bytes around literal handles have no secret.
func (s *slowMind) plain(text []byte) bool {
	for at := 0; at < len(text); at++ {
		if n, ok := box.Number(text[at:min(at+32, len(text))]); ok && n > 0 {
			text = append(append(slices.Clone(text[:at]), 0x1f), text[at+32:]...) // a byte that is in no secret
		}
	}
	for _, secret := range s.secrets {
		if secret != "" && strings.Contains(string(text), secret) {
			return false
		}
	}
	return true
}

// text reports whether a text follows from these handles.
func (s *slowMind) text(text []byte, have map[int]bool) bool {
	for _, n := range slowFound(text) {
		if !have[n] {
			return false
		}
	}
	return s.plain(text)
}

// derive returns all that follows.
func (s *slowMind) derive() map[int]bool {
	have := map[int]bool{}
	for n := range s.known {
		have[n] = true
	}
	for size := -1; size != len(have); {
		size = len(have)
		for n, x := range s.box.Terms() {
			lacking := []int{}
			for _, k := range x.List {
				if !have[k] {
					lacking = append(lacking, k)
				}
			}
			if x.Kind == box.Turn && len(lacking) == 1 && have[n] {
				have[lacking[0]] = true
			}
			if x.Kind == box.Turn && len(lacking) == 0 || x.Kind != box.Turn && s.text(x.Key, have) && s.text(x.Text, have) {
				have[n] = true
			}
		}
	}
	return have
}

// grow adds a term to a box that is made of others.
func grow(r *rand.Rand, b *box.Box) {
	some := func() []byte {
		n := 1 + r.Intn(b.Len()+1+r.Intn(3)/2)
		h := handle(n)
		return []byte(oneOf(r, h, h, std(h), digits(h), "a"+h, "a", "b", "key", "", h+handle(1+r.Intn(b.Len()+1))))
	}
	switch r.Intn(6) {
	case 0:
		b.Hash(some(), some())
	case 1:
		b.Mac(some(), some())
	case 2:
		b.Stretch(some(), some(), 1+r.Intn(2))
	case 3:
		b.Mac([]byte("key"), []byte(fmt.Sprint(b.Len())))
	default:
		x, y := box.Handle(1+r.Intn(b.Len()+1)), box.Handle(1+r.Intn(b.Len()+1))
		if r.Intn(6) == 0 {
			y = bytes.Repeat([]byte{byte(1 + r.Intn(3))}, 32)
		}
		b.Turn(x, y)
	}
}

// A mind derives what the slow one does, while the box and its knowledge grow; and nothing ceases to be derivable, and what was observed is.
func TestP28_2Slow(t *testing.T) {
	r := rand.New(rand.NewSource(283))
	derived, refused := 0, 0
	for range 300 {
		b := box.New(true)
		secrets := oneOf(r, []string{"key"}, []string{"key", ""}, []string{"key", "b"}, []string{"TRM", "key"}, nil)
		m := made(t, b, secrets...)
		s := &slowMind{box: b, secrets: secrets, known: map[int]bool{}}
		before := map[int]bool{}
		for range 25 {
			for range r.Intn(3) {
				grow(r, b)
			}
			if r.Intn(4) == 0 {
				text := someText(r, b.Len()+2)
				m.See(text)
				slowSee(text, s.known)
				for _, n := range slowFound(text) {
					if !m.Made(n) {
						t.Fatal("what was observed isn't derivable", n)
					}
				}
				if !m.Says(text) || m.Text(text) != s.plain(text) {
					t.Fatalf("%q was observed", text)
				}
			}
			have := s.derive()
			var want []int
			for n := range b.Len() + 4 {
				if m.Made(n) != have[n] || before[n] && !have[n] {
					t.Fatal(n, m.Made(n), have[n], before[n])
				}
				if have[n] && n <= b.Len() {
					want = append(want, n)
				} else {
					refused++
				}
			}
			derived += len(want)
			if got := slices.Collect(m.All()); !slices.Equal(got, want) {
				t.Fatal(got, want)
			}
			text := someText(r, b.Len()+2)
			says := true
			for _, n := range slowFound(text) {
				says = says && (n > b.Len() || have[n])
			}
			if m.Text(text) != s.text(text, have) || m.Says(text) != says {
				t.Fatalf("%q: %v %v", text, m.Text(text), m.Says(text))
			}
			before = have
		}
		if got := m.Known(); len(got) != len(s.known) || !slices.IsSorted(got) {
			t.Fatal(got, s.known)
		}
	}
	if derived < 10000 || refused < 10000 {
		t.Error("too little has happened", derived, refused)
	}
}

// slowSee adds what is known from a text.
func slowSee(text []byte, known map[int]bool) {
	for _, n := range slowFound(text) {
		known[n] = true
	}
}

// All yields what there is when the iteration begins, each time anew, and stops when it is stopped.
func TestP28_2All(t *testing.T) {
	b := box.New(true)
	m := made(t, b, "key")
	all := m.All()
	for n := range 5 {
		b.Hash([]byte{byte(n)})
		b.Mac([]byte("key"), []byte{byte(n)})
	}
	want := []int{1, 3, 5, 7, 9}
	for stop := range want {
		var got []int
		for n := range all {
			got = append(got, n)
			if len(got) > stop {
				break
			}
		}
		if !slices.Equal(got, want[:stop+1]) {
			t.Error(stop, got)
		}
	}
	var got []int
	for n := range all {
		got = append(got, n)
		b.Hash([]byte(fmt.Sprint("more", n)))
		m.See(box.Handle(10))
		if len(got) > 99 {
			t.Fatal("what comes meanwhile is yielded")
		}
	}
	if !slices.Equal(got, want) || len(slices.Collect(all)) != 11 {
		t.Error(got, slices.Collect(all))
	}
}

// Each question is answered from the box's present terms, whichever is asked first.
func TestP28_2Present(t *testing.T) {
	for what, ask := range map[string]func(m *knows.Mind) bool{
		"Made": func(m *knows.Mind) bool { return m.Made(1) && !m.Made(2) },
		"Text": func(m *knows.Mind) bool { return m.Text([]byte(handle(1))) },
		"Says": func(m *knows.Mind) bool { return m.Says([]byte(handle(1))) && !m.Says([]byte(handle(2))) },
		"All":  func(m *knows.Mind) bool { return slices.Equal(slices.Collect(m.All()), []int{1}) },
	} {
		b := box.New(true)
		m := made(t, b, "key")
		if what != "Says" && ask(m) {
			t.Error(what, "of a term that there isn't")
		}
		b.Hash([]byte("a"))
		b.Mac([]byte("key"), nil)
		if !ask(m) {
			t.Error(what)
		}
	}
}

// Two minds of one box know what each of them has seen.
func TestP28_2TwoMinds(t *testing.T) {
	b := box.New(true)
	x := b.Mac([]byte("key"), nil)
	m, o := made(t, b, "key"), made(t, b, "key")
	m.See(x)
	makes(t, b, m, 1)
	makes(t, b, o)
	makes(t, b, made(t, b), 1)
}

// Observing more never makes less derivable, in whatever order it is observed.
func TestP28_3Order(t *testing.T) {
	r := rand.New(rand.NewSource(284))
	for range 200 {
		b := box.New(true)
		for range 25 {
			grow(r, b)
		}
		var texts [][]byte
		for range 5 {
			texts = append(texts, someText(r, b.Len()))
		}
		m := made(t, b, "key")
		before := slices.Collect(m.All())
		for _, text := range texts {
			m.See(text)
			after := slices.Collect(m.All())
			for _, n := range before {
				if !slices.Contains(after, n) {
					t.Fatal(n, "is no longer derivable")
				}
			}
			for _, n := range knows.Found(text) {
				if !m.Made(n) {
					t.Fatal(n, "was observed")
				}
			}
			before = after
		}
		o := made(t, b, "key")
		for _, n := range r.Perm(len(texts)) {
			o.See(texts[n])
			o.See(texts[n])
		}
		if got := slices.Collect(o.All()); !slices.Equal(got, before) || !slices.Equal(o.Known(), m.Known()) {
			t.Fatal(got, before)
		}
	}
}

// A text that was observed is derivable, because no secret is ever sent.
func TestP28_3Observed(t *testing.T) {
	r := rand.New(rand.NewSource(285))
	for range 2000 {
		m := made(t, box.New(true), "never sent")
		text := someText(r, 50)
		m.See(text)
		if !m.Text(text) || !m.Says(text) {
			t.Fatalf("%q", text)
		}
	}
}

// A nil mind knows nothing.
func TestP28_2Nil(t *testing.T) {
	var m *knows.Mind
	m.See([]byte(handle(1)))
	for _, text := range []string{"", "a", handle(1)} {
		if m.Text([]byte(text)) || m.Says([]byte(text)) {
			t.Errorf("%q", text)
		}
	}
	if m.Made(0) || m.Made(1) || m.Known() != nil || m.All() == nil || slices.Collect(m.All()) != nil {
		t.Error("a nil mind knows something")
	}
}
