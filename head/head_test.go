package head_test

import (
	"bytes"
	"fmt"
	"math/rand"
	"regexp"
	"slices"
	"strconv"
	"strings"
	"testing"

	"ostiary/api"
	"ostiary/head"
)

const (
	most      = 4096 // bytes of a head
	mostCount = 24   // fields of a head
)

// The syntax, as regular expressions. What they exclude is ASCII, so that the bytes from 80 on are in whether or not they are valid UTF-8.
const (
	token  = "[0-9A-Za-z!#$%&'*+.^_`|~-]+"
	target = `[^\x00-\x20\x7f]+`
	text   = `[^\x00-\x08\x0a-\x1f\x7f]*`
	fields = `((?:` + token + `:` + text + "\r\n)*)"
)

var (
	requestForm = regexp.MustCompile("^(" + token + ") (" + target + ") HTTP/1\\.1\r\n" + fields + "\r\n$")
	answerForm  = regexp.MustCompile("^HTTP/1\\.1 ([1-9][0-9][0-9]) (" + text + ")\r\n" + fields + "\r\n$")
	splitForm   = regexp.MustCompile(`^([A-Za-z0-9._-]{1,32}):([1-9][0-9]{0,4})$`)
)

// wantHead matches the head at the beginning of p with a form, and returns its parts, its fields and its size.
func wantHead(form *regexp.Regexp, p string) ([]string, []api.Pair, int, api.Errno) {
	end := strings.Index(p, "\r\n\r\n") + 4
	if end < 4 || end > most {
		if len(p) < most {
			return nil, nil, 0, api.ErrShort
		}
		return nil, nil, 0, api.ErrLong
	}
	m := form.FindStringSubmatch(p[:end])
	if m == nil {
		return nil, nil, 0, api.ErrForm
	}
	var list []api.Pair
	for line := range strings.SplitSeq(m[3], "\r\n") {
		if line != "" {
			at := strings.Index(line, ":")
			list = append(list, api.Pair{Name: line[:at], Value: strings.Trim(line[at+1:], " \t")})
		}
	}
	if len(list) > mostCount {
		return nil, nil, 0, api.ErrLong
	}
	return m, list, end, api.OK
}

func wantRequest(p string) (head.Request, int, api.Errno) {
	m, list, size, e := wantHead(requestForm, p)
	if e != api.OK {
		return head.Request{}, 0, e
	}
	return head.Request{Method: m[1], Target: m[2], Fields: list}, size, e
}

func wantAnswer(p string) (head.Answer, int, api.Errno) {
	m, list, size, e := wantHead(answerForm, p)
	if e != api.OK {
		return head.Answer{}, 0, e
	}
	status, _ := strconv.Atoi(m[1])
	return head.Answer{Status: status, Reason: m[2], Fields: list}, size, e
}

func sameRequest(r, o head.Request) bool {
	return r.Method == o.Method && r.Target == o.Target && slices.Equal(r.Fields, o.Fields)
}

func sameAnswer(a, o head.Answer) bool {
	return a.Status == o.Status && a.Reason == o.Reason && slices.Equal(a.Fields, o.Fields)
}

// checkRequest compares ParseRequest with what is wanted, and the bytes of the result with those of which they are a shorter spelling.
func checkRequest(t *testing.T, p string) api.Errno {
	t.Helper()
	want, wantSize, wantErrno := wantRequest(p)
	r, size, e := head.ParseRequest([]byte(p))
	if e != wantErrno || size != wantSize || !sameRequest(r, want) {
		t.Fatalf("%q: %+v, %d, %d, not %+v, %d, %d", p, r, size, e, want, wantSize, wantErrno)
	}
	if e == api.OK {
		b, e := r.Bytes()
		back, _, e2 := head.ParseRequest(b)
		if e == api.OK && (e2 != api.OK || !sameRequest(back, r)) || e != api.OK && (e != api.ErrLong || size+len(r.Fields) <= most) {
			t.Fatalf("%q: %q, %d, %d", p, b, e, e2)
		}
	}
	return e
}

func checkAnswer(t *testing.T, p string) api.Errno {
	t.Helper()
	want, wantSize, wantErrno := wantAnswer(p)
	a, size, e := head.ParseAnswer([]byte(p))
	if e != wantErrno || size != wantSize || !sameAnswer(a, want) {
		t.Fatalf("%q: %+v, %d, %d, not %+v, %d, %d", p, a, size, e, want, wantSize, wantErrno)
	}
	if e == api.OK {
		b, e := a.Bytes()
		back, _, e2 := head.ParseAnswer(b)
		if e == api.OK && (e2 != api.OK || !sameAnswer(back, a)) || e != api.OK && (e != api.ErrLong || size+len(a.Fields) <= most) {
			t.Fatalf("%q: %q, %d, %d", p, b, e, e2)
		}
	}
	return e
}

const (
	request = "CONNECT db:5432 HTTP/1.1\r\nX-Role:  dev \t\r\nHost:\r\nx-role: a b\r\n\r\n"
	answer  = "HTTP/1.1 407 Proxy Authentication Required\r\nA:b\r\nProxy-Authenticate: Digest realm=\"\xff\"\r\n\r\n"
)

func TestP9_1Example(t *testing.T) {
	const p = "GET / HTTP/1.1\r\nHost: a\r\n\r\n"
	r, size, e := head.ParseRequest([]byte(p))
	if e != api.OK || size != len(p) || !sameRequest(r, head.Request{Method: "GET", Target: "/", Fields: []api.Pair{{Name: "Host", Value: "a"}}}) {
		t.Error(r, size, e)
	}
	if b, e := r.Bytes(); string(b) != p || e != api.OK {
		t.Errorf("%q, %d", b, e)
	}
}

// TestP9_1EveryChange: each head, with any byte replaced or inserted at any place, and with any part of it missing or repeated.
func TestP9_1EveryChange(t *testing.T) {
	for i, p := range []string{request, answer} {
		check := [2]func(*testing.T, string) api.Errno{checkRequest, checkAnswer}[i]
		ends := map[api.Errno]int{}
		for at := range len(p) + 1 {
			for b := range 256 {
				sign := string([]byte{byte(b)})
				ends[check(t, p[:at]+sign+p[at:])]++
				if at < len(p) {
					ends[check(t, p[:at]+sign+p[at+1:])]++
				}
			}
			for end := at; end <= len(p); end++ {
				ends[check(t, p[:at]+p[end:])]++
				ends[check(t, p[:end]+p[at:])]++
			}
			if e := check(t, p[:at]); at < len(p) && e != api.ErrShort {
				t.Errorf("%q: %d", p[:at], e)
			}
		}
		if ends[api.OK] < 1000 || ends[api.ErrForm] < 1000 || ends[api.ErrShort] < 1000 {
			t.Error(i, ends)
		}
	}
}

func TestP9_1Request(t *testing.T) {
	for p, want := range map[string]api.Errno{
		"":                                       api.ErrShort,
		"\r\n":                                   api.ErrShort,
		"\r\n\r\n":                               api.ErrForm,
		"\r\n\r\nGET / HTTP/1.1\r\n\r\n":         api.ErrForm,
		"\r\nGET / HTTP/1.1\r\n\r\n":             api.ErrForm,
		"GET / HTTP/1.1\r\n":                     api.ErrShort,
		"GET / HTTP/1.1\r\n\r":                   api.ErrShort,
		"GET / HTTP/1.1\r\n\r\n":                 api.OK,
		"GET / HTTP/1.1\n\n":                     api.ErrShort,
		"GET / HTTP/1.1\n\r\n\r\n":               api.ErrForm,
		"GET / HTTP/1.1\r\r\n\r\n":               api.ErrForm,
		"GET / HTTP/1.1\r\n\r\n\r\n":             api.OK,
		"GET / HTTP/1.1\r\n\r\nrest\r\n\r\n":     api.OK,
		"GET / HTTP/1.0\r\n\r\n":                 api.ErrForm,
		"GET / http/1.1\r\n\r\n":                 api.ErrForm,
		"GET / HTTP/1.1 \r\n\r\n":                api.ErrForm,
		"GET / HTTP/1.1x\r\n\r\n":                api.ErrForm,
		"GET / \r\n\r\n":                         api.ErrForm,
		"GET /\r\n\r\n":                          api.ErrForm,
		"GET\r\n\r\n":                            api.ErrForm,
		"GET  HTTP/1.1\r\n\r\n":                  api.ErrForm,
		"GET  / HTTP/1.1\r\n\r\n":                api.ErrForm,
		"GET /  HTTP/1.1\r\n\r\n":                api.ErrForm,
		"GET / / HTTP/1.1\r\n\r\n":               api.ErrForm,
		" GET / HTTP/1.1\r\n\r\n":                api.ErrForm,
		" / HTTP/1.1\r\n\r\n":                    api.ErrForm,
		"GET\t/ HTTP/1.1\r\n\r\n":                api.ErrForm,
		"GET \t HTTP/1.1\r\n\r\n":                api.ErrForm,
		"G(T / HTTP/1.1\r\n\r\n":                 api.ErrForm,
		"get! é\xff~ HTTP/1.1\r\n\r\n":           api.OK,
		"GET \x7f HTTP/1.1\r\n\r\n":              api.ErrForm,
		"GET a\x00 HTTP/1.1\r\n\r\n":             api.ErrForm,
		"GET / HTTP/1.1\r\na: b\r\n\r\n":         api.OK,
		"GET / HTTP/1.1\r\na:b\r\n\r\n":          api.OK,
		"GET / HTTP/1.1\r\na: \t b \t \r\n\r\n":  api.OK,
		"GET / HTTP/1.1\r\na:\r\n\r\n":           api.OK,
		"GET / HTTP/1.1\r\na: \t\r\n\r\n":        api.OK,
		"GET / HTTP/1.1\r\na::\r\n\r\n":          api.OK,
		"GET / HTTP/1.1\r\na: b\tc : d\r\n\r\n":  api.OK,
		"GET / HTTP/1.1\r\na: \xff\x80é\r\n\r\n": api.OK,
		"GET / HTTP/1.1\r\na\r\n\r\n":            api.ErrForm,
		"GET / HTTP/1.1\r\n:b\r\n\r\n":           api.ErrForm,
		"GET / HTTP/1.1\r\na : b\r\n\r\n":        api.ErrForm,
		"GET / HTTP/1.1\r\n a: b\r\n\r\n":        api.ErrForm,
		"GET / HTTP/1.1\r\na: b\r\n c\r\n\r\n":   api.ErrForm,
		"GET / HTTP/1.1\r\na: b\nc: d\r\n\r\n":   api.ErrForm,
		"GET / HTTP/1.1\r\na: b\rc\r\n\r\n":      api.ErrForm,
		"GET / HTTP/1.1\r\na: b\r\r\n\r\n":       api.ErrForm,
		"GET / HTTP/1.1\r\na: \x00\r\n\r\n":      api.ErrForm,
		"GET / HTTP/1.1\r\na: \x7f\r\n\r\n":      api.ErrForm,
		"GET / HTTP/1.1\r\nä: b\r\n\r\n":         api.ErrForm,
		"GET / HTTP/1.1\r\na: b\r\na: c\r\n\r\n": api.OK,
		"HTTP/1.1 200 OK\r\n\r\n":                api.ErrForm,
	} {
		if e := checkRequest(t, p); e != want {
			t.Errorf("%q: %d, not %d", p, e, want)
		}
	}
}

func TestP9_1Answer(t *testing.T) {
	for p, want := range map[string]api.Errno{
		"":                                         api.ErrShort,
		"HTTP/1.1 200 OK":                          api.ErrShort,
		"HTTP/1.1 200 OK\r\n":                      api.ErrShort,
		"HTTP/1.1 200 OK\r\n\r\n":                  api.OK,
		"HTTP/1.1 200 \r\n\r\n":                    api.OK,
		"HTTP/1.1 200  \t \r\n\r\n":                api.OK,
		"HTTP/1.1 200 a b\t\xff\r\n\r\n":           api.OK,
		"HTTP/1.1 200\r\n\r\n":                     api.ErrForm,
		"HTTP/1.1 200\tOK\r\n\r\n":                 api.ErrForm,
		"HTTP/1.1 \r\n\r\n":                        api.ErrForm,
		"HTTP/1.1\r\n\r\n":                         api.ErrForm,
		"HTTP/1.1  200 OK\r\n\r\n":                 api.ErrForm,
		"HTTP/1.0 200 OK\r\n\r\n":                  api.ErrForm,
		"http/1.1 200 OK\r\n\r\n":                  api.ErrForm,
		" HTTP/1.1 200 OK\r\n\r\n":                 api.ErrForm,
		"HTTP/1.1 100 OK\r\n\r\n":                  api.OK,
		"HTTP/1.1 999 OK\r\n\r\n":                  api.OK,
		"HTTP/1.1 099 OK\r\n\r\n":                  api.ErrForm,
		"HTTP/1.1 99 OK\r\n\r\n":                   api.ErrForm,
		"HTTP/1.1 000 OK\r\n\r\n":                  api.ErrForm,
		"HTTP/1.1 1000 OK\r\n\r\n":                 api.ErrForm,
		"HTTP/1.1 0200 OK\r\n\r\n":                 api.ErrForm,
		"HTTP/1.1 +20 OK\r\n\r\n":                  api.ErrForm,
		"HTTP/1.1 -20 OK\r\n\r\n":                  api.ErrForm,
		"HTTP/1.1 2x0 OK\r\n\r\n":                  api.ErrForm,
		"HTTP/1.1 200 O\x00K\r\n\r\n":              api.ErrForm,
		"HTTP/1.1 200 O\x7fK\r\n\r\n":              api.ErrForm,
		"HTTP/1.1 200 OK\n\r\n\r\n":                api.ErrForm,
		"HTTP/1.1 200 OK\r\na: b\r\n\r\nbody":      api.OK,
		"HTTP/1.1 200 OK\r\na b\r\n\r\nbody":       api.ErrForm,
		"HTTP/1.1 200 OK\r\n\r\nHTTP/1.1 300 \r\n": api.OK,
		"\r\n\r\nHTTP/1.1 200 OK\r\n\r\n":          api.ErrForm,
		"GET / HTTP/1.1\r\n\r\n":                   api.ErrForm,
	} {
		if e := checkAnswer(t, p); e != want {
			t.Errorf("%q: %d, not %d", p, e, want)
		}
	}
}

// TestP9_1Long: a head must end within the first bytes, whatever it is; too many fields come after the form.
func TestP9_1Long(t *testing.T) {
	for i, start := range []string{"GET / HTTP/1.1\r\n", "HTTP/1.1 200 OK\r\n"} {
		check := [2]func(*testing.T, string) api.Errno{checkRequest, checkAnswer}[i]
		for n := most - 6; n <= most+6; n++ {
			fill := strings.Repeat("b", n-len(start)-len("a:\r\n\r\n"))
			for _, rest := range []string{"", "x", strings.Repeat("rest\r\n\r\n", 1000)} {
				want, wantBad := api.OK, api.ErrForm
				if n > most {
					want, wantBad = api.ErrLong, api.ErrLong
				}
				if e := check(t, start+"a:"+fill+"\r\n\r\n"+rest); e != want {
					t.Errorf("%d bytes and %d: %d", n, len(rest), e)
				}
				if e := check(t, start+"a "+fill+"\r\n\r\n"+rest); e != wantBad {
					t.Errorf("%d bytes without a colon and %d: %d", n, len(rest), e)
				}
			}
			want := api.ErrShort
			if n >= most {
				want = api.ErrLong
			}
			for _, sign := range []string{"a", "\x00", "\r", "\n"} {
				if e := check(t, strings.Repeat(sign, n)); e != want {
					t.Errorf("%d times %q: %d", n, sign, e)
				}
			}
		}
		for n := range 40 {
			list := strings.Repeat("a: b\r\n", n)
			want, wantBad := api.OK, api.ErrForm
			if n > mostCount {
				want = api.ErrLong
			}
			if e := check(t, start+list+"\r\n"); e != want {
				t.Errorf("%d fields: %d", n, e)
			}
			if e := check(t, start+list+"b\r\n\r\n"); e != wantBad {
				t.Errorf("%d fields and a bad one: %d", n, e)
			}
			if e := check(t, "x"+start+list+"\r\n"); i == 1 && e != wantBad {
				t.Errorf("%d fields behind a bad line: %d", n, e)
			}
		}
	}
}

// TestP9_1Bytes: heads with parts of any kind have bytes only if these are parsed as the same head.
func TestP9_1Bytes(t *testing.T) {
	random := rand.New(rand.NewSource(8))
	pick := func(list ...string) string { return list[random.Intn(len(list))] }
	anyFields := func() []api.Pair {
		var list []api.Pair
		for range random.Intn(4) {
			list = append(list, api.Pair{
				Name:  pick("a", "A", "X-Role", "~!", "a", "a", "", "a b", "a:", "é", "\r\n"),
				Value: pick("b", "", "a b\tc", "é\xff", ":", "b", "b", "b ", "\tb", " ", "b\r\nc: d", "\x00", "\x7f", "\n"),
			})
		}
		return list
	}
	ends := [2]map[api.Errno]int{{}, {}}
	for range 40000 {
		r := head.Request{
			Method: pick("GET", "get", "CONNECT", "", "G T", "é", "a\r\n", "GET / HTTP/1.1\r\nGET"),
			Target: pick("/", "db:5432", "é\xff", "", "a b", "\t", "\x7f", "/ HTTP/1.1\r\na:"),
			Fields: anyFields(),
		}
		a := head.Answer{
			Status: []int{100, 999, 200, 407, 99, 1000, 0, -200, 1 << 62}[random.Intn(9)],
			Reason: pick("OK", "", " a\t ", "é\xff", "OK", "a\r\nb: c", "\x00", "\x7f"),
			Fields: anyFields(),
		}
		want := r.Method + " " + r.Target + " HTTP/1.1\r\n"
		wantOfAnswer := fmt.Sprintf("HTTP/1.1 %d %s\r\n", a.Status, a.Reason)
		for _, f := range r.Fields {
			want += f.Name + ": " + f.Value + "\r\n"
		}
		for _, f := range a.Fields {
			wantOfAnswer += f.Name + ": " + f.Value + "\r\n"
		}
		before := slices.Clone(r.Fields)
		b, e := r.Bytes()
		back, size, errno := wantRequest(want + "\r\n")
		checkWritten(t, b, e, want+"\r\n", errno == api.OK && sameRequest(back, r) && size == len(want)+2)
		ends[0][e]++
		b, e = a.Bytes()
		backOfAnswer, size, errno := wantAnswer(wantOfAnswer + "\r\n")
		checkWritten(t, b, e, wantOfAnswer+"\r\n", errno == api.OK && sameAnswer(backOfAnswer, a) && size == len(wantOfAnswer)+2)
		ends[1][e]++
		if !slices.Equal(r.Fields, before) {
			t.Fatal("an argument was changed")
		}
	}
	for i, counts := range ends {
		if counts[api.OK] < 1000 || counts[api.ErrForm] < 1000 {
			t.Error(i, counts)
		}
	}
}

// checkWritten checks that there are those bytes if the head is valid, and ErrForm otherwise.
func checkWritten(t *testing.T, b []byte, e api.Errno, want string, valid bool) {
	t.Helper()
	wantErrno := api.OK
	if !valid {
		want, wantErrno = "", api.ErrForm
	}
	if string(b) != want || e != wantErrno {
		t.Fatalf("%q, %d, not %q, %d", b, e, want, wantErrno)
	}
}

// TestP9_1LongBytes: a head is too long only if it is one.
func TestP9_1LongBytes(t *testing.T) {
	fill := func(n int) []api.Pair { return []api.Pair{{Name: "a", Value: strings.Repeat("b", n)}} }
	several := func(n int) []api.Pair { return slices.Repeat([]api.Pair{{Name: "a", Value: "b"}}, n) }
	others := len("GET / HTTP/1.1\r\na: \r\n\r\n") // as many as in an answer with a reason of one byte
	for _, c := range []struct {
		method, reason string
		fields         []api.Pair
		want           api.Errno
	}{
		{"GET", "O", fill(most - others - 1), api.OK},
		{"GET", "O", fill(most - others), api.OK},
		{"GET", "O", fill(most - others + 1), api.ErrLong},
		{"GET", "O", fill(9 * most), api.ErrLong},
		{"G T", "\n", fill(9 * most), api.ErrForm},
		{"GET", "O", append(fill(9*most), api.Pair{Value: "b"}), api.ErrForm},
		{"GET", "O", several(mostCount), api.OK},
		{"GET", "O", several(mostCount + 1), api.ErrLong},
		{"GET", "O", several(9 * most), api.ErrLong},
		{"G T", "\n", several(mostCount + 1), api.ErrForm},
		{"GET", "O", append(several(mostCount), api.Pair{Name: "a", Value: " "}), api.ErrForm},
		{strings.Repeat("G", 2*most), strings.Repeat("O", 2*most), nil, api.ErrLong},
		{strings.Repeat("G", 2*most) + " ", strings.Repeat("O", 2*most) + "\r", nil, api.ErrForm},
	} {
		for i, call := range []func() ([]byte, api.Errno){head.Request{Method: c.method, Target: "/", Fields: c.fields}.Bytes, head.Answer{Status: 200, Reason: c.reason, Fields: c.fields}.Bytes} {
			b, e := call()
			if e != c.want || e == api.OK && !bytes.HasSuffix(b, []byte("b\r\n\r\n")) || e != api.OK && len(b) != 0 {
				t.Errorf("%d, %.20q, %.20q, %d fields: %d bytes, %d, not %d", i, c.method, c.reason, len(c.fields), len(b), e, c.want)
			}
		}
	}
}

func TestP9_1Memory(t *testing.T) {
	p := []byte(request)
	r, size, _ := head.ParseRequest(append(p, "rest"...)[:len(p)])
	o, _, _ := head.ParseRequest(p)
	if string(p) != request {
		t.Error("an argument was changed")
	}
	clear(p)
	if !sameRequest(r, o) || r.Method != "CONNECT" || r.Fields[2].Value != "a b" || size != len(request) {
		t.Error(r, size)
	}
	clear(r.Fields[:cap(r.Fields)])
	if o.Fields[0].Name != "X-Role" {
		t.Error("heads share their fields")
	}
	b, _ := o.Bytes()
	c, _ := o.Bytes()
	clear(b[:cap(b)])
	if d, _ := o.Bytes(); !bytes.Equal(c, d) {
		t.Error("results share memory")
	}
}

func TestP9_2GetAndFirst(t *testing.T) {
	list := []api.Pair{{Name: "A", Value: "1"}, {Name: "b", Value: "2"}, {Name: "a", Value: ""}, {Name: "aa", Value: "4"}, {Name: "a", Value: "5"}, {Name: "", Value: "6"}, {Name: "K", Value: "7"}, {Name: "\u212a", Value: "8"}, {Name: "É", Value: "9"}}
	for _, c := range []struct {
		name string
		want []string
	}{
		{"a", []string{"1", "", "5"}},
		{"A", []string{"1", "", "5"}},
		{"B", []string{"2"}},
		{"AA", []string{"4"}},
		{"c", nil},
		{"", []string{"6"}},
		{"k", []string{"7"}},
		{"\u212a", []string{"8"}},
		{"é", nil},
		{"É", []string{"9"}},
	} {
		all := head.Get(list, c.name)
		for range 2 {
			if got := slices.Collect(all); !slices.Equal(got, c.want) {
				t.Errorf("%q: %q", c.name, got)
			}
		}
		want := ""
		if len(c.want) > 0 {
			want = c.want[0]
		}
		if got, ok := head.First(list, c.name); got != want || ok != (c.want != nil) {
			t.Errorf("%q: %q, %v", c.name, got, ok)
		}
		for value := range all { // stops at once
			if value != c.want[0] {
				t.Errorf("%q: %q", c.name, value)
			}
			break
		}
	}
	for range head.Get(nil, "a") {
		t.Error("a field of none")
	}
	if _, ok := head.First(nil, ""); ok {
		t.Error("a field of none")
	}
}

// TestP9_2GetMemory: the fields may be overwritten after the call.
func TestP9_2GetMemory(t *testing.T) {
	list := []api.Pair{{Name: "a", Value: "1"}, {Name: "a", Value: "2"}}
	all := head.Get(list, "a")
	clear(list)
	if got := slices.Collect(all); !slices.Equal(got, []string{"1", "2"}) {
		t.Error(got)
	}
}

func TestP9_2Fold(t *testing.T) {
	lower := func(b int) int {
		if b >= 'A' && b <= 'Z' {
			return b + 32
		}
		return b
	}
	for a := range 256 {
		for b := range 256 {
			x, y := string([]byte{'m', byte(a), 'N'}), string([]byte{'M', byte(b), 'N'})
			if head.Fold(x, y) != (lower(a) == lower(b)) {
				t.Errorf("%q, %q", x, y)
			}
		}
	}
	for _, c := range []struct {
		a, b string
		want bool
	}{
		{"", "", true},
		{"", "a", false},
		{"a", "", false},
		{"a", "aa", false},
		{"aa", "a", false},
		{"Proxy-Authorization", "proxy-AUTHORIZATION", true},
		{"Proxy-Authorization", "Proxy_Authorization", false},
		{"s", "\u017f", false},
		{"K", "\u212a", false},
		{"é", "É", false},
		{"\xff", "\xfe", false},
		{"\xff", "\ufffd", false},
	} {
		if head.Fold(c.a, c.b) != c.want || head.Fold(c.b, c.a) != c.want {
			t.Errorf("%q, %q", c.a, c.b)
		}
	}
}

func TestP9_2Lines(t *testing.T) {
	for _, c := range []struct{ p, want string }{
		{"", ""},
		{"a", "a!"},
		{"a\r\n", "a."},
		{"\r\n", "."},
		{"\r\n\r\n", ".."},
		{"a\r\nb", "a.b!"},
		{"a\r\n\r\nb\r\n", "a..b."},
		{"\r\na", ".a!"},
		{"\r", "\r!"},
		{"\n", "\n!"},
		{"\n\r", "\n\r!"},
		{"a\nb\rc\r\n", "a\nb\rc."},
		{"a\r\r\nb\n\r\n", "a\r.b\n."},
		{"a\r\n\r", "a.\r!"},
		{"\xff\x00\r\né", "\xff\x00.é!"},
	} {
		p := []byte(c.p)
		all := head.Lines(p)
		if string(p) != c.p {
			t.Error("an argument was changed")
		}
		clear(p)
		for range 2 {
			got := ""
			for line, ended := range all {
				got += line + map[bool]string{true: ".", false: "!"}[ended]
			}
			if got != c.want {
				t.Errorf("%q: %q, not %q", c.p, got, c.want)
			}
		}
	}
	for stop := 1; stop <= 3; stop++ {
		got := ""
		for line := range head.Lines([]byte("1\r\n2\r\n3")) {
			got += line
			if len(got) == stop {
				break
			}
		}
		if got != "123"[:stop] {
			t.Errorf("stopped at %d: %q", stop, got)
		}
	}
}

// TestP9_2EveryShortText: lines and remainder together are the text.
func TestP9_2EveryShortText(t *testing.T) {
	var visit func(string)
	visit = func(p string) {
		joined := ""
		last := true
		for line, ended := range head.Lines([]byte(p)) {
			if !last || strings.Contains(line, "\r\n") || !ended && line == "" {
				t.Fatalf("%q: %q", p, line)
			}
			joined += line
			if ended {
				joined += "\r\n"
			}
			last = ended
		}
		if joined != p {
			t.Fatalf("%q: %q", p, joined)
		}
		for _, sign := range "\r\na" {
			if len(p) < 9 {
				visit(p + string(sign))
			}
		}
	}
	visit("")
}

func checkSplit(t *testing.T, target string) bool {
	t.Helper()
	wantHost, wantPort, want := "", 0, false
	if m := splitForm.FindStringSubmatch(target); m != nil {
		wantHost, want = m[1], true
		wantPort, _ = strconv.Atoi(m[2])
		if wantPort > 65535 {
			wantHost, wantPort, want = "", 0, false
		}
	}
	host, port, ok := head.Split(target)
	if host != wantHost || port != wantPort || ok != want {
		t.Fatalf("%q: %q, %d, %v, not %q, %d, %v", target, host, port, ok, wantHost, wantPort, want)
	}
	return ok
}

func TestP9_3Split(t *testing.T) {
	for target, want := range map[string]bool{
		"a.b:80":                           true,
		"":                                 false,
		":":                                false,
		"a":                                false,
		"a:":                               false,
		":80":                              false,
		"80":                               false,
		"a:0":                              false,
		"a:1":                              true,
		"a:01":                             false,
		"a:080":                            false,
		"a:9999":                           true,
		"a:10000":                          true,
		"a:65535":                          true,
		"a:65536":                          false,
		"a:99999":                          false,
		"a:100000":                         false,
		"a:18446744073709551617":           false,
		"a:+1":                             false,
		"a:-1":                             false,
		"a:1 ":                             false,
		"a: 1":                             false,
		"a:x":                              false,
		"a:1x":                             false,
		"a:1:1":                            false,
		"a:b:1":                            false,
		"a::1":                             false,
		"[a]:1":                            false,
		"a/b:1":                            false,
		"é:1":                              false,
		"\xff:1":                           false,
		"a\x00:1":                          false,
		"..:1":                             true,
		"-_.:1":                            true,
		"Az09.-_:443":                      true,
		"a:\u0661":                         false,
		strings.Repeat("a", 32) + ":65535": true,
		strings.Repeat("a", 33) + ":1":     false,
		strings.Repeat("a", 99) + ":1":     false,
	} {
		if checkSplit(t, target) != want {
			t.Errorf("%q: %v", target, !want)
		}
	}
	if host, port, ok := head.Split("a.b:80"); host != "a.b" || port != 80 || !ok {
		t.Error(host, port, ok)
	}
	for b := range 256 {
		sign := string([]byte{byte(b)})
		for _, target := range []string{sign + ":1", "a" + sign + ":1", "a" + sign + "1", "a:" + sign, "a:1" + sign, sign + "a:1"} {
			checkSplit(t, target)
		}
	}
	for port := range 70000 {
		checkSplit(t, fmt.Sprintf("h:%d", port))
	}
}

// TestP1Anything: no call panics, whatever bytes it is given.
func TestP1Anything(t *testing.T) {
	random := rand.New(rand.NewSource(9))
	pieces := []string{"GET", "/", " ", "HTTP/1.1", "\r\n", "\r\n\r\n", "a", ":", "b", "200", "\x00", "\xff", "\r", "\n", "GET / HTTP/1.1\r\n", "HTTP/1.1 200 OK\r\n", "a: b\r\n"}
	for range 50000 {
		s := ""
		for range random.Intn(10) {
			s += pieces[random.Intn(len(pieces))]
		}
		checkRequest(t, s)
		checkAnswer(t, s)
		checkSplit(t, s)
	}
}
