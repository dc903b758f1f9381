package digest_test

import (
	"bytes"
	"encoding/hex"
	"fmt"
	"math"
	"math/rand"
	"regexp"
	"slices"
	"strconv"
	"strings"
	"testing"

	"ostiary/api"
	"ostiary/digest"
)

const (
	most      = 4096 // bytes of a header
	mostCount = 16   // parameters of a header
	mostNonce = 64
	proofHex  = "00112233445566778899aabbccddeeff0123456789abcdef0123456789abcdef"
)

const (
	rfcChallenge = `Digest realm="http-auth@example.org", qop="auth", algorithm=SHA-256, nonce="7ypf/xlj9XXwfDPEoM4URrv/xwf94BcCAzFZH4GiTo0v", opaque="FQhe/qaU925kfnzjCev0ciny7QMkPqMAFRtzCUYo5tdS"`
	rfcAnswer    = `Digest username="Mufasa", realm="http-auth@example.org", uri="/dir/index.html", algorithm=SHA-256, nonce="7ypf/xlj9XXwfDPEoM4URrv/xwf94BcCAzFZH4GiTo0v", nc=00000001, cnonce="f2/wE4q74E6zIJEtWaHKaf5wv/H5QzzpXusqGemxURZJ", qop=auth, response="753927fa0e85d155564e2e272a28d1802ca10daf4496794697cf8db5856cb6c1", opaque="FQhe/qaU925kfnzjCev0ciny7QMkPqMAFRtzCUYo5tdS"`
)

// The syntax, as regular expressions. What they exclude is ASCII, so that the bytes from 80 on are in whether or not they are valid UTF-8.
const (
	token  = "[0-9A-Za-z!#$%&'*+.^_`|~-]+"
	quoted = `"(?:[^\x00-\x08\x0a-\x1f\x7f"\\]|\\[^\x00-\x08\x0a-\x1f\x7f])*"`
	param  = `(` + token + `)[ \t]*=[ \t]*(` + token + `|` + quoted + `)`
	comma  = `[ \t]*,[ \t]*`
)

var (
	tokenForm  = regexp.MustCompile(`^` + token + `$`)
	quotedForm = regexp.MustCompile(`^` + quoted + `$`)
	paramForm  = regexp.MustCompile(`^` + param)
	commaForm  = regexp.MustCompile(`^` + comma)
	listForm   = regexp.MustCompile(`^` + param + `(?:` + comma + param + `)*$`)
	headerForm = regexp.MustCompile(`(?s)^[Dd][Ii][Gg][Ee][Ss][Tt] +(.*)$`)
)

func lower(s string) string {
	p := []byte(s)
	for i, b := range p {
		if 'A' <= b && b <= 'Z' {
			p[i] = b + 32
		}
	}
	return string(p)
}

// unquote undoes the quoting of a quoted string.
func unquote(s string) string {
	var out []byte
	for i := 1; i < len(s)-1; i++ {
		if s[i] == '\\' {
			i++
		}
		out = append(out, s[i])
	}
	return string(out)
}

// wantScan returns the parameters up to the first position where none follows, and whether there is such a position.
func wantScan(list string) ([]digest.Param, bool) {
	var out []digest.Param
	for {
		m := paramForm.FindStringSubmatch(list)
		if m == nil {
			return out, true
		}
		p := digest.Param{Name: lower(m[1]), Value: m[2]}
		if m[2][0] == '"' {
			p.Value, p.Quoted = unquote(m[2]), true
		}
		out = append(out, p)
		list = list[len(m[0]):]
		if list == "" {
			return out, false
		}
		separator := commaForm.FindString(list)
		if separator == "" {
			return out, true
		}
		list = list[len(separator):]
	}
}

func wantParse(header string) ([]digest.Param, api.Errno) {
	if len(header) > most {
		return nil, api.ErrLong
	}
	m := headerForm.FindStringSubmatch(header)
	if m == nil || !listForm.MatchString(m[1]) {
		return nil, api.ErrForm
	}
	list, _ := wantScan(m[1])
	if len(list) > mostCount {
		return nil, api.ErrLong
	}
	names := map[string]bool{}
	for _, p := range list {
		if names[p.Name] {
			return nil, api.ErrExists
		}
		names[p.Name] = true
	}
	return list, api.OK
}

// wanted returns the parameters of a header by their names, and ErrNone if one of those is missing.
func wanted(header string, names ...string) (map[string]digest.Param, api.Errno) {
	list, errno := wantParse(header)
	all := map[string]digest.Param{}
	for _, p := range list {
		all[p.Name] = p
	}
	for _, name := range names {
		if _, ok := all[name]; !ok && errno == api.OK {
			errno = api.ErrNone
		}
	}
	return all, errno
}

var (
	algorithmForm = regexp.MustCompile(`^[Ss][Hh][Aa]-256$`)
	countForm     = regexp.MustCompile(`^[0-9a-f]{8}$`)
	proofForm     = regexp.MustCompile(`^[0-9a-f]{64}$`)
)

func isNonce(s string) bool { return len(s) >= 1 && len(s) <= mostNonce }

func wantChallenge(header string) (digest.Challenge, api.Errno) {
	all, errno := wanted(header, "realm", "nonce", "qop", "algorithm")
	if errno != api.OK {
		return digest.Challenge{}, errno
	}
	realm, nonce, qop, opaque, algorithm := all["realm"], all["nonce"], all["qop"], all["opaque"], all["algorithm"]
	stale, hasStale := all["stale"]
	_, hasOpaque := all["opaque"]
	switch {
	case qop.Value != "auth", !algorithmForm.MatchString(algorithm.Value),
		hasStale && stale.Value != "true" && stale.Value != "false",
		!realm.Quoted, !nonce.Quoted, !qop.Quoted, hasOpaque && !opaque.Quoted,
		algorithm.Quoted, stale.Quoted, !isNonce(nonce.Value):
		return digest.Challenge{}, api.ErrForm
	}
	return digest.Challenge{Realm: realm.Value, Nonce: nonce.Value, Opaque: opaque.Value, Stale: stale.Value == "true"}, api.OK
}

func wantAnswer(header string) (digest.Answer, api.Errno) {
	all, errno := wanted(header, "username", "realm", "nonce", "uri", "qop", "nc", "cnonce", "response", "algorithm")
	if errno != api.OK {
		return digest.Answer{}, errno
	}
	for _, name := range []string{"username", "realm", "nonce", "uri", "cnonce", "response", "opaque"} {
		if p, ok := all[name]; ok && !p.Quoted {
			return digest.Answer{}, api.ErrForm
		}
	}
	qop, nc, algorithm, response := all["qop"], all["nc"], all["algorithm"], all["response"]
	switch {
	case qop.Value != "auth", !algorithmForm.MatchString(algorithm.Value), !countForm.MatchString(nc.Value), !proofForm.MatchString(response.Value),
		qop.Quoted, nc.Quoted, algorithm.Quoted, !isNonce(all["nonce"].Value), !isNonce(all["cnonce"].Value):
		return digest.Answer{}, api.ErrForm
	}
	count, _ := strconv.ParseUint(nc.Value, 16, 32)
	proof, _ := hex.DecodeString(response.Value)
	return digest.Answer{
		User: all["username"].Value, Realm: all["realm"].Value, Nonce: all["nonce"].Value, URI: all["uri"].Value,
		Cnonce: all["cnonce"].Value, Opaque: all["opaque"].Value, NC: uint32(count), Proof: proof,
	}, api.OK
}

func sameAnswer(a, b digest.Answer) bool {
	proofs := bytes.Equal(a.Proof, b.Proof)
	a.Proof, b.Proof = nil, nil
	return proofs && fmt.Sprintf("%#v", a) == fmt.Sprintf("%#v", b)
}

// scan collects what Scan yields, and checks that an error comes alone and last.
func scan(t *testing.T, list string) ([]digest.Param, bool) {
	t.Helper()
	var out []digest.Param
	bad := false
	for p, e := range digest.Scan(list) {
		switch {
		case bad:
			t.Fatalf("%q: more after an error", list)
		case e == api.OK:
			out = append(out, p)
		case e != api.ErrForm || p != digest.Param{}:
			t.Fatalf("%q: %+v, %d", list, p, e)
		default:
			bad = true
		}
	}
	return out, bad
}

func checkScan(t *testing.T, list string) {
	t.Helper()
	want, wantBad := wantScan(list)
	for range 2 {
		if got, bad := scan(t, list); !slices.Equal(got, want) || bad != wantBad {
			t.Fatalf("%q: %+v, bad: %v; not %+v, %v", list, got, bad, want, wantBad)
		}
	}
	if wantBad == listForm.MatchString(list) {
		t.Fatalf("%q: what is wanted of the parameters isn't what is wanted of the list", list)
	}
}

func checkParse(t *testing.T, header string) api.Errno {
	t.Helper()
	want, wantErrno := wantParse(header)
	got, e := digest.Parse(header)
	if e != wantErrno || !slices.Equal(got, want) {
		t.Fatalf("%q: %+v, %d, not %+v, %d", header, got, e, want, wantErrno)
	}
	return e
}

func checkChallenge(t *testing.T, header string) api.Errno {
	t.Helper()
	want, wantErrno := wantChallenge(header)
	got, e := digest.ParseChallenge(header)
	if e != wantErrno || got != want {
		t.Fatalf("%q: %+v, %d, not %+v, %d", header, got, e, want, wantErrno)
	}
	return e
}

func checkAnswer(t *testing.T, header string) api.Errno {
	t.Helper()
	want, wantErrno := wantAnswer(header)
	got, e := digest.ParseAnswer(header)
	if e != wantErrno || !sameAnswer(got, want) {
		t.Fatalf("%q: %+v, %d, not %+v, %d", header, got, e, want, wantErrno)
	}
	return e
}

// everyText calls visit with every text of at most size of the pieces.
func everyText(pieces []string, size int, visit func(string)) {
	var extend func(string, int)
	extend = func(text string, left int) {
		visit(text)
		for _, piece := range pieces {
			if left > 0 {
				extend(text+piece, left-1)
			}
		}
	}
	extend("", size)
}

// everyChange calls visit with every text that is s but for one byte, or but for a part that is missing or repeated.
func everyChange(s string, visit func(string)) {
	for at := range len(s) + 1 {
		for b := range 256 {
			sign := string([]byte{byte(b)})
			visit(s[:at] + sign + s[at:])
			if at < len(s) {
				visit(s[:at] + sign + s[at+1:])
			}
		}
		for end := at; end <= len(s); end++ {
			visit(s[:at] + s[end:])
			visit(s[:end] + s[at:])
		}
	}
}

func TestP8_1Scan(t *testing.T) {
	for _, c := range []struct{ list, want string }{
		{``, `!`},
		{`a=b`, `a=b.`},
		{`a=b,c=d`, `a=b.c=d.`},
		{"A \t=\t b \t,\t C=\"d\"", `a=b.c="d".`},
		{`a=""`, `a="".`},
		{`a=`, `!`},
		{`a`, `!`},
		{`=b`, `!`},
		{`a= `, `!`},
		{`a==b`, `!`},
		{` a=b`, `!`},
		{"\ta=b", `!`},
		{`a=b `, `a=b.!`},
		{"a=b\t", `a=b.!`},
		{`a=b,`, `a=b.!`},
		{`a=b, `, `a=b.!`},
		{`,a=b`, `!`},
		{`a=b,,c=d`, `a=b.!`},
		{`a=b c=d`, `a=b.!`},
		{`a=b;c=d`, `a=b.!`},
		{`a=b"c"`, `a=b.!`},
		{`a="b"c`, `a="b".!`},
		{`a="b"c=d`, `a="b".!`},
		{`a="b" "c"`, `a="b".!`},
		{`a="b`, `!`},
		{`a="b\"`, `!`},
		{`a="b\`, `!`},
		{`a="`, `!`},
		{`a="\"\\\a"`, `a=""\a".`},
		{`a="\\"`, `a="\".`},
		{`a="b, c=d", e=f`, `a="b, c=d".e=f.`},
		{"a=\"\t \xff\"", "a=\"\t \xff\"."},
		{"a=\"\\\t\\ \\\x80\"", "a=\"\t \x80\"."},
		{"a=\"\x7f\"", `!`},
		{"a=\"\\\x7f\"", `!`},
		{"a=\"\n\"", `!`},
		{"a=\"\\\x00\"", `!`},
		{"a=b,c=\"\r\"", `a=b.!`},
		{`a=b,a=b,A=c`, `a=b.a=b.a=c.`},
		{`a=b@c`, `a=b.!`},
		{`a@=b`, `!`},
		{`é=b`, `!`},
		{`a=é`, `!`},
		{"a\n=b", `!`},
		{"a=b\n", `a=b.!`},
		{strings.Repeat(`a=b,`, 100) + `c=d`, strings.Repeat(`a=b.`, 100) + `c=d.`},
	} {
		got := ""
		for p, e := range digest.Scan(c.list) {
			switch {
			case e == api.ErrForm && p == digest.Param{}:
				got += `!`
			case p.Quoted:
				got += p.Name + `="` + p.Value + `".`
			default:
				got += p.Name + `=` + p.Value + `.`
			}
		}
		if got != c.want {
			t.Errorf("%q: %q, not %q", c.list, got, c.want)
		}
		checkScan(t, c.list)
	}
}

func TestP8_1EveryShortList(t *testing.T) {
	everyText([]string{"a", "=", ",", `"`, `\`, " ", "\x7f", "\x80"}, 6, func(s string) { checkScan(t, s) })
	everyText([]string{"a=b", "C = d", `e="f"`, "=", ",", " ,\t", `"`, "\n"}, 5, func(s string) { checkScan(t, s) })
}

func TestP8_1EveryChangeOfAList(t *testing.T) {
	everyChange("A=b, c\t=\"d\\\"\xc3\", e= f", func(s string) { checkScan(t, s) })
}

func TestP8_1ScanStops(t *testing.T) {
	for stop := 1; stop <= 4; stop++ {
		count := 0
		for p, e := range digest.Scan("a=1,b=2,c=3,") {
			count++
			if count <= 3 && (e != api.OK || p.Value != strconv.Itoa(count)) || count == 4 && e != api.ErrForm {
				t.Errorf("%d: %+v, %d", count, p, e)
			}
			if count == stop {
				break
			}
		}
		if count != stop {
			t.Errorf("stopped at %d: %d", stop, count)
		}
	}
}

func TestP8_1Parse(t *testing.T) {
	for header, want := range map[string]api.Errno{
		"":                                 api.ErrForm,
		"Digest":                           api.ErrForm,
		"Digest ":                          api.ErrForm,
		"Digest a":                         api.ErrForm,
		"Digest a=b":                       api.OK,
		"digest a=b":                       api.OK,
		"DIGEST a=b":                       api.OK,
		"dIgEsT    a=b":                    api.OK,
		"Digest\ta=b":                      api.ErrForm,
		"Digest \ta=b":                     api.ErrForm,
		"Digest a=b ":                      api.ErrForm,
		" Digest a=b":                      api.ErrForm,
		"Digesta=b":                        api.ErrForm,
		"Digest,a=b":                       api.ErrForm,
		"Diges a=b":                        api.ErrForm,
		"Digests a=b":                      api.ErrForm,
		"Basic a=b":                        api.ErrForm,
		"a=b":                              api.ErrForm,
		"dige\u017ft a=b":                  api.ErrForm, // a letter that may be folded to s
		"D\u0130GEST a=b":                  api.ErrForm, // a letter that becomes i in lower case
		"d\u0131gest a=b":                  api.ErrForm,
		"Digest a=b,c=d , e=\"f\"":         api.OK,
		"Digest a=b,":                      api.ErrForm,
		"Digest a=b, a=c":                  api.ErrExists,
		"Digest a=b, A=b":                  api.ErrExists,
		"Digest x=1, a=b, y=\"a\", a=\"\"": api.ErrExists,
		"Digest a=b, a=c,":                 api.ErrForm,
		"Digest a=b, a=c, \x00":            api.ErrForm,
		"Digest a=a, b=a, c=b":             api.OK,
	} {
		if e := checkParse(t, header); e != want {
			t.Errorf("%q: %d, not %d", header, e, want)
		}
	}
	list, e := digest.Parse("Digest A=b, c=\"d\\\"\"")
	if e != api.OK || !slices.Equal(list, []digest.Param{{Name: "a", Value: "b"}, {Name: "c", Value: `d"`, Quoted: true}}) {
		t.Error(list, e)
	}
}

// numbered returns n parameters with names of their own.
func numbered(n int) string {
	var list []string
	for i := range n {
		list = append(list, fmt.Sprintf("p%d=v", i))
	}
	return strings.Join(list, ",")
}

// TestP8_1Precedence: the length of a header comes first, then its form, then the number of parameters, then repeated names.
func TestP8_1Precedence(t *testing.T) {
	for header, want := range map[string]api.Errno{
		"Digest " + numbered(15):                                     api.OK,
		"Digest " + numbered(16):                                     api.OK,
		"Digest " + numbered(17):                                     api.ErrLong,
		"Digest " + numbered(300):                                    api.ErrLong,
		"Digest " + numbered(15) + ",p0=v":                           api.ErrExists,
		"Digest " + numbered(16) + ",p0=v":                           api.ErrLong,
		"Digest a=b,a=b," + numbered(20):                             api.ErrLong,
		"Digest " + numbered(17) + ",":                               api.ErrForm,
		"Digest " + numbered(15) + ",p0=v,":                          api.ErrForm,
		"Digest " + numbered(300) + ", \"":                           api.ErrForm,
		"Digest a=" + strings.Repeat("b", most-9):                    api.OK,
		"Digest a=" + strings.Repeat("b", most-8):                    api.ErrLong,
		"Digest a=\"" + strings.Repeat("b", most-11) + "\"":          api.OK,
		"Digest a=\"" + strings.Repeat("b", most-10) + "\"":          api.ErrLong,
		"Digest " + strings.Repeat(" ", most-10) + "a=b":             api.OK,
		"Digest " + strings.Repeat(" ", most-9) + "a=b":              api.ErrLong,
		strings.Repeat("\x00", most):                                 api.ErrForm,
		strings.Repeat("\x00", most+1):                               api.ErrLong,
		"Digest a=b, a=c" + strings.Repeat(" ", most):                api.ErrLong,
		"Digest a=b, a=\"" + strings.Repeat("c", most-17) + "\"":     api.ErrExists,
		"Digest a=b, a=\"" + strings.Repeat("c", most-17) + "\"\t\t": api.ErrLong,
	} {
		if e := checkParse(t, header); e != want {
			t.Errorf("%d bytes, %.40q: %d, not %d", len(header), header, e, want)
		}
	}
}

func TestP8_1EveryChangeOfAHeader(t *testing.T) {
	everyChange("Digest a=b, C=\"d\"", func(s string) { checkParse(t, s) })
	everyText([]string{"digest", "Digest", " ", "\t", "a=b", `A="c"`, ",", "x"}, 5, func(s string) { checkParse(t, s) })
}

// TestP8_1AnyCount: lists of any length, in which names may be repeated.
func TestP8_1AnyCount(t *testing.T) {
	random := rand.New(rand.NewSource(2))
	ends := map[api.Errno]int{}
	for range 4000 {
		var list []string
		for i := range 1 + random.Intn(20) {
			name := fmt.Sprintf("%c%d", "pP"[random.Intn(2)], i)
			if random.Intn(30) == 0 {
				name = fmt.Sprintf("p%d", random.Intn(20))
			}
			list = append(list, name+[]string{"=v", "=v", "=v", "=\"v\"", " = v", "=\"a,b\""}[random.Intn(6)])
		}
		ends[checkParse(t, "Digest "+strings.Join(list, []string{",", " , ", ", "}[random.Intn(3)]))]++
	}
	if ends[api.OK] < 100 || ends[api.ErrLong] < 100 || ends[api.ErrExists] < 100 {
		t.Error(ends)
	}
}

func TestP8_1Print(t *testing.T) {
	q := func(name, value string) digest.Param { return digest.Param{Name: name, Value: value, Quoted: true} }
	u := func(name, value string) digest.Param { return digest.Param{Name: name, Value: value} }
	several := func(n int) []digest.Param {
		var list []digest.Param
		for i := range n {
			list = append(list, u(fmt.Sprintf("p%d", i), "v"))
		}
		return list
	}
	for _, c := range []struct {
		list []digest.Param
		want string
		e    api.Errno
	}{
		{nil, "", api.ErrForm},
		{[]digest.Param{}, "", api.ErrForm},
		{[]digest.Param{u("a", "b")}, `Digest a=b`, api.OK},
		{[]digest.Param{u("a", "b"), q("c", "d")}, `Digest a=b, c="d"`, api.OK},
		{[]digest.Param{q("a", ""), q("b", `"\`), u("c", "D")}, `Digest a="", b="\"\\", c=D`, api.OK},
		{[]digest.Param{q("a", "\t ,=\x80\xff~")}, "Digest a=\"\t ,=\x80\xff~\"", api.OK},
		{[]digest.Param{u("a", "")}, "", api.ErrForm},
		{[]digest.Param{u("a", "b c")}, "", api.ErrForm},
		{[]digest.Param{u("a", `"b"`)}, "", api.ErrForm},
		{[]digest.Param{u("", "b")}, "", api.ErrForm},
		{[]digest.Param{q("", "b")}, "", api.ErrForm},
		{[]digest.Param{u("A", "b")}, "", api.ErrForm},
		{[]digest.Param{q("aB", "b")}, "", api.ErrForm},
		{[]digest.Param{u("é", "b")}, "", api.ErrForm},
		{[]digest.Param{u("a=b, c", "d")}, "", api.ErrForm},
		{[]digest.Param{u("a", "b, c=d")}, "", api.ErrForm},
		{[]digest.Param{q("a", "\n")}, "", api.ErrForm},
		{[]digest.Param{q("a", "\x7f")}, "", api.ErrForm},
		{[]digest.Param{u("a", "b"), u("c", "d"), q("e", "\x00")}, "", api.ErrForm},
		{[]digest.Param{u("a", "b"), u("a", "b")}, "", api.ErrExists},
		{[]digest.Param{u("a", "b"), q("c", "d"), q("a", "")}, "", api.ErrExists},
		{[]digest.Param{u("a", "b"), u("a", "")}, "", api.ErrForm},
		{several(16), "Digest " + strings.ReplaceAll(numbered(16), ",", ", "), api.OK},
		{several(17), "", api.ErrLong},
		{append(several(15), u("p0", "v")), "", api.ErrExists},
		{append(several(16), u("p0", "v")), "", api.ErrLong},
		{append(several(300), u("A", "v")), "", api.ErrForm},
		{several(1000), "", api.ErrLong},
		{[]digest.Param{q("a", strings.Repeat("b", most-11))}, "Digest a=\"" + strings.Repeat("b", most-11) + "\"", api.OK},
		{[]digest.Param{q("a", strings.Repeat("b", most-10))}, "", api.ErrLong},
		{[]digest.Param{q("a", strings.Repeat(`"`, 2042))}, "Digest a=\"" + strings.Repeat(`\"`, 2042) + "\"", api.OK},
		{[]digest.Param{q("a", strings.Repeat(`"`, 2043))}, "", api.ErrLong},
		{[]digest.Param{q("a", strings.Repeat("b", most)), q("a", "")}, "", api.ErrLong},
		{[]digest.Param{q("a", strings.Repeat("b", most)+"\n")}, "", api.ErrForm},
		{[]digest.Param{u("a", strings.Repeat("b", most)+"@")}, "", api.ErrForm},
	} {
		before := slices.Clone(c.list)
		got, e := digest.Print(c.list)
		if got != c.want || e != c.e || !slices.Equal(before, c.list) {
			t.Errorf("%.80v: %.80q, %d, not %.80q, %d", c.list, got, e, c.want, c.e)
		}
		if c.e == api.OK {
			if back, e := digest.Parse(got); e != api.OK || !slices.Equal(back, c.list) {
				t.Errorf("%.80q: %v, %d", got, back, e)
			}
		}
	}
}

// TestP8_1PrintEveryByte: each byte, in a name, in a value and in a quoted value.
func TestP8_1PrintEveryByte(t *testing.T) {
	for b := range 256 {
		sign := string([]byte{byte(b)})
		for i, valid := range []bool{
			tokenForm.MatchString(sign) && lower(sign) == sign,
			tokenForm.MatchString(sign),
			b == 9 || b >= 32 && b != 127,
		} {
			p := digest.Param{Name: "a", Value: "b"}
			switch i {
			case 0:
				p.Name += sign
			case 1:
				p.Value += sign
			default:
				p.Value, p.Quoted = sign, true
			}
			s, e := digest.Print([]digest.Param{p})
			if valid != (e == api.OK) || !valid && (e != api.ErrForm || s != "") {
				t.Errorf("%+v: %q, %d", p, s, e)
			}
			if list, e := digest.Parse(s); valid && (e != api.OK || len(list) != 1 || list[0] != p) {
				t.Errorf("%q: %v, %d", s, list, e)
			}
		}
	}
}

func TestP8_2Examples(t *testing.T) {
	const header = `Digest realm="a", nonce="b", algorithm=SHA-256, qop="auth"`
	c, e := digest.ParseChallenge(header)
	if e != api.OK || c != (digest.Challenge{Realm: "a", Nonce: "b"}) {
		t.Error(c, e)
	}
	if s, e := c.Text(); s != header || e != api.OK {
		t.Error(s, e)
	}
	for stale, want := range map[string]bool{"true": true, "false": false} {
		if c, e := digest.ParseChallenge(header + ", stale=" + stale); e != api.OK || c != (digest.Challenge{Realm: "a", Nonce: "b", Stale: want}) {
			t.Error(stale, c, e)
		}
	}
	c, e = digest.ParseChallenge(rfcChallenge)
	if e != api.OK || c.Realm != "http-auth@example.org" || c.Nonce != "7ypf/xlj9XXwfDPEoM4URrv/xwf94BcCAzFZH4GiTo0v" || c.Opaque != "FQhe/qaU925kfnzjCev0ciny7QMkPqMAFRtzCUYo5tdS" || c.Stale {
		t.Error(c, e)
	}
	a, e := digest.ParseAnswer(rfcAnswer)
	if e != api.OK || a.User != "Mufasa" || a.Realm != c.Realm || a.Nonce != c.Nonce || a.URI != "/dir/index.html" || a.Cnonce != "f2/wE4q74E6zIJEtWaHKaf5wv/H5QzzpXusqGemxURZJ" ||
		a.Opaque != c.Opaque || a.NC != 1 || hex.EncodeToString(a.Proof) != "753927fa0e85d155564e2e272a28d1802ca10daf4496794697cf8db5856cb6c1" {
		t.Error(a, e)
	}
}

// some returns the parameters of a header, of which each may be missing, of another form, or joined by another one.
func some(random *rand.Rand, right []string, wrong map[string][]string) string {
	var list []string
	for _, p := range right {
		name, _, _ := strings.Cut(p, "=")
		switch random.Intn(60) {
		case 0:
			continue
		case 1:
			p = wrong[name][random.Intn(len(wrong[name]))]
		case 2:
			p = strings.ToUpper(name) + " = " + p[len(name)+1:]
		case 3:
			list = append(list, []string{"x=y", `domain="/"`, "userhash=false", `z="\""`, "stale=", p}[random.Intn(6)])
		}
		list = append(list, p)
	}
	random.Shuffle(len(list), func(i, j int) { list[i], list[j] = list[j], list[i] })
	return "Digest " + strings.Join(list, ", ")
}

func wrongParams() map[string][]string {
	long := strings.Repeat("n", mostNonce)
	return map[string][]string{
		"username":  {"username=u", `username=""`, `username="a\"b"`},
		"realm":     {"realm=r", `realm=""`, "realm=\"\\\xff\""},
		"nonce":     {"nonce=n", `nonce=""`, `nonce="` + long + `"`, `nonce="` + long + `n"`, `nonce="` + strings.Repeat(`\"`, mostNonce) + `"`},
		"cnonce":    {"cnonce=n", `cnonce=""`, `cnonce="` + long + `"`, `cnonce="` + long + `n"`, `cnonce=" \\"`},
		"uri":       {"uri=u", `uri=""`, `uri="http://a/?b=c, d=e"`},
		"opaque":    {"opaque=o", `opaque=""`, `opaque="\o"`},
		"algorithm": {`algorithm="SHA-256"`, "algorithm=sha-256", "algorithm=Sha-256", "algorithm=SHA-256-sess", "algorithm=MD5", "algorithm=\"\u017fHA-256\""},
		"stale":     {"stale=false", "stale=TRUE", "stale=False", `stale="true"`, `stale="false"`, "stale=no", "stale=t"},
		"qop":       {`qop=auth`, `qop="auth"`, `qop="auth-int"`, `qop="auth,auth-int"`, `qop="Auth"`, "qop=AUTH", `qop=""`, `qop="au\th"`},
		"nc":        {"nc=ffffffff", "nc=FFFFFFFF", "nc=0000000A", "nc=0000001", "nc=000000001", `nc="00000001"`, "nc=0000000g", "nc=0x000001", "nc=00000000"},
		"response":  {"response=" + proofHex, `response="` + proofHex[1:] + `"`, `response="` + proofHex + `0"`, `response="` + strings.ToUpper(proofHex) + `"`, `response=""`, `response="` + proofHex[2:] + `"`, `response="` + proofHex + `00"`, `response="` + proofHex[:63] + `g"`},
	}
}

func TestP8_2AnyHeader(t *testing.T) {
	challenge := []string{`realm="r"`, `nonce="n"`, `qop="auth"`, "algorithm=SHA-256", "stale=true", `opaque="o"`}
	answer := []string{`username="u"`, `realm="r"`, `nonce="n"`, `uri="/"`, "qop=auth", "nc=0000000a", `cnonce="c"`, `response="` + proofHex + `"`, "algorithm=SHA-256", `opaque="o"`}
	random := rand.New(rand.NewSource(1))
	var ends [2]map[api.Errno]int
	for i, right := range [][]string{challenge, answer} {
		ends[i] = map[api.Errno]int{}
		check := [2]func(*testing.T, string) api.Errno{checkChallenge, checkAnswer}[i]
		for range 30000 {
			ends[i][check(t, some(random, right, wrongParams()))]++
		}
		for _, e := range []api.Errno{api.OK, api.ErrForm, api.ErrNone, api.ErrExists} {
			if ends[i][e] < 50 {
				t.Errorf("%d: error %d %d times", i, e, ends[i][e])
			}
		}
		// Each parameter alone is missing, or has each of the other forms, or has each form and is ignored.
		for at, p := range right {
			name, _, _ := strings.Cut(p, "=")
			check(t, "Digest "+strings.Join(slices.Delete(slices.Clone(right), at, at+1), ", "))
			for _, other := range wrongParams()[name] {
				list := slices.Clone(right)
				list[at] = other
				check(t, "Digest "+strings.Join(list, ", "))
			}
		}
		for name, forms := range wrongParams() {
			for _, p := range forms {
				if !strings.Contains(strings.Join(right, ", "), name+"=") {
					if e := check(t, "Digest "+p+", "+strings.Join(right, ", ")); e != api.OK {
						t.Errorf("%d, %s: %d", i, p, e)
					}
				}
			}
		}
	}
}

func TestP8_2EveryChange(t *testing.T) {
	everyChange(`Digest realm="a", nonce="b", stale=true, algorithm=SHA-256, qop="auth"`, func(s string) { checkChallenge(t, s) })
	everyChange(`Digest username="u", realm="r", nonce="n", uri="/", qop=auth, nc=0000000a, cnonce="c", response="`+proofHex+`", algorithm=SHA-256`, func(s string) { checkAnswer(t, s) })
}

func TestP8_2Errors(t *testing.T) {
	challenge := `Digest realm="r", nonce="n", algorithm=SHA-256, qop="auth"`
	answer := `Digest username="u", realm="r", nonce="n", uri="/", qop=auth, nc=00000001, cnonce="c", response="` + proofHex + `", algorithm=SHA-256`
	for i, header := range []string{challenge, answer} {
		check := [2]func(*testing.T, string) api.Errno{checkChallenge, checkAnswer}[i]
		for s, want := range map[string]api.Errno{
			header:                                 api.OK,
			strings.ToUpper("Digest") + header[6:]: api.OK,
			"":                                     api.ErrForm,
			"Digest a=b":                           api.ErrNone,
			header + ",":                           api.ErrForm,
			header + `, realm="r"`:                 api.ErrExists,
			header + ", " + numbered(12-5*i):       api.OK,
			header + ", " + numbered(13-5*i):       api.ErrLong,
			header + ", x=" + strings.Repeat("y", most-len(header)-4):            api.OK,
			header + ", x=" + strings.Repeat("y", most-len(header)-3):            api.ErrLong,
			strings.Replace(header, "nonce", "nonces", 1):                        api.ErrNone,
			strings.Replace(header, `realm="r", nonce="n"`, `nonce=n`, 1):        api.ErrNone,
			strings.Replace(header, `nonce="n"`, `nonce=n`, 1):                   api.ErrForm,
			strings.Replace(header, `"r"`, `"`+strings.Repeat(`\r`, 999)+`"`, 1): api.OK,
		} {
			if e := check(t, s); e != want {
				t.Errorf("%.200q: %d, not %d", s, e, want)
			}
		}
	}
	if checkChallenge(t, answer) == api.OK || checkAnswer(t, challenge) != api.ErrNone {
		t.Error("a challenge is no answer")
	}
}

// value writes a quoted value.
func value(s string) string {
	return `"` + strings.NewReplacer(`\`, `\\`, `"`, `\"`).Replace(s) + `"`
}

// TestP8_2Text: values of any kind have a header only if it is parsed as the same value.
func TestP8_2Text(t *testing.T) {
	random := rand.New(rand.NewSource(4))
	pick := func(list ...string) string { return list[random.Intn(len(list))] }
	anything := func() string { return pick("a", "a", "a", "", `"\`, "\t é\xff", "a, b=c", "x\n", "\x7f", "\x00") }
	nonce := func() string {
		return pick("n", "n", "n", `"`, strings.Repeat(`\`, mostNonce), strings.Repeat("n", mostNonce+1), "", "\r")
	}
	proof, _ := hex.DecodeString(proofHex)
	var ends [2]map[api.Errno]int
	ends[0], ends[1] = map[api.Errno]int{}, map[api.Errno]int{}
	check := func(i int, text string, e api.Errno, want string, valid bool) {
		t.Helper()
		wantErrno := api.OK
		if !valid {
			want, wantErrno = "", api.ErrForm
		}
		if text != want || e != wantErrno {
			t.Fatalf("%q, %d, not %q, %d", text, e, want, wantErrno)
		}
		ends[i][e]++
	}
	for range 30000 {
		c := digest.Challenge{Realm: anything(), Nonce: nonce(), Opaque: anything(), Stale: random.Intn(2) == 0}
		want := "Digest realm=" + value(c.Realm) + ", nonce=" + value(c.Nonce)
		if c.Opaque != "" {
			want += ", opaque=" + value(c.Opaque)
		}
		want += ", algorithm=SHA-256"
		if c.Stale {
			want += ", stale=true"
		}
		want += `, qop="auth"`
		back, errno := wantChallenge(want)
		text, e := c.Text()
		check(0, text, e, want, errno == api.OK && back == c)

		a := digest.Answer{User: anything(), Realm: anything(), Nonce: nonce(), URI: anything(), Cnonce: nonce(), Opaque: anything(), NC: random.Uint32() >> random.Intn(32), Proof: proof}
		if random.Intn(4) == 0 {
			a.Proof = [][]byte{nil, proof[1:], append(proof[:32:32], 1), make([]byte, 32)}[random.Intn(4)]
		}
		want = fmt.Sprintf(`Digest username=%s, realm=%s, nonce=%s, uri=%s, qop=auth, nc=%08x, cnonce=%s, response="%x"`, value(a.User), value(a.Realm), value(a.Nonce), value(a.URI), a.NC, value(a.Cnonce), a.Proof)
		if a.Opaque != "" {
			want += ", opaque=" + value(a.Opaque)
		}
		want += ", algorithm=SHA-256"
		back2, errno := wantAnswer(want)
		text, e = a.Text()
		check(1, text, e, want, errno == api.OK && sameAnswer(back2, a))
	}
	for i, counts := range ends {
		if counts[api.OK] < 500 || counts[api.ErrForm] < 500 {
			t.Error(i, counts)
		}
	}
}

// TestP8_2LongText: a header is too long only if it is one.
func TestP8_2LongText(t *testing.T) {
	proof, _ := hex.DecodeString(proofHex)
	short, _ := (digest.Challenge{Nonce: "n"}).Text()
	shortAnswer, _ := (digest.Answer{Nonce: "n", Cnonce: "c", Proof: proof}).Text()
	for _, n := range []int{most - 1, most, most + 1, 3 * most} {
		want := api.OK
		if n > most {
			want = api.ErrLong
		}
		filler, fillerOfAnswer := strings.Repeat("r", n-len(short)), strings.Repeat("r", n-len(shortAnswer))
		for _, c := range []struct {
			text func() (string, api.Errno)
			want api.Errno
		}{
			{digest.Challenge{Realm: filler, Nonce: "n"}.Text, want},
			{digest.Challenge{Realm: filler, Nonce: ""}.Text, api.ErrForm},
			{digest.Challenge{Realm: filler, Nonce: "\n"}.Text, api.ErrForm},
			{digest.Challenge{Nonce: filler}.Text, api.ErrForm},
			{digest.Challenge{Realm: filler, Nonce: "n", Opaque: "\x00"}.Text, api.ErrForm},
			{digest.Answer{User: fillerOfAnswer, Nonce: "n", Cnonce: "c", Proof: proof}.Text, want},
			{digest.Answer{URI: fillerOfAnswer, Nonce: "n", Cnonce: "c", Proof: proof}.Text, want},
			{digest.Answer{User: fillerOfAnswer, Nonce: "n", Cnonce: "c", Proof: proof[1:]}.Text, api.ErrForm},
			{digest.Answer{User: fillerOfAnswer, Nonce: "n", Cnonce: "", Proof: proof}.Text, api.ErrForm},
			{digest.Answer{User: fillerOfAnswer, URI: "\n", Nonce: "n", Cnonce: "c", Proof: proof}.Text, api.ErrForm},
			{digest.Answer{Nonce: "n", Cnonce: "c", Proof: make([]byte, n)}.Text, api.ErrForm},
		} {
			s, e := c.text()
			if e != c.want || e == api.OK && len(s) != n || e != api.OK && s != "" {
				t.Errorf("%d bytes: %d bytes, %d, not %d", n, len(s), e, c.want)
			}
		}
	}
}

// TestP8_2Memory: results share no memory with each other.
func TestP8_2Memory(t *testing.T) {
	a, _ := digest.ParseAnswer(rfcAnswer)
	b, _ := digest.ParseAnswer(rfcAnswer)
	clear(a.Proof[:cap(a.Proof)])
	c, _ := digest.ParseAnswer(rfcAnswer)
	if !sameAnswer(b, c) || sameAnswer(a, b) {
		t.Error(a, b, c)
	}
	proof := slices.Clone(b.Proof)
	b.Text()
	if !bytes.Equal(proof, b.Proof) {
		t.Error("an argument was changed")
	}
	x, _ := digest.Parse(rfcChallenge)
	y, _ := digest.Parse(rfcChallenge)
	clear(x[:cap(x)])
	if z, _ := digest.Parse(rfcChallenge); !slices.Equal(y, z) {
		t.Error(y, z)
	}
}

func TestP8_3Token(t *testing.T) {
	const signs = "0123456789abcdefghijklmnopqrstuvwxyzABCDEFGHIJKLMNOPQRSTUVWXYZ!#$%&'*+-.^_`|~"
	for b := range 256 {
		sign := string([]byte{byte(b)})
		want := strings.Contains(signs, sign)
		for _, s := range []string{sign, "a" + sign, sign + "a", "a" + sign + "a"} {
			if digest.Token(s) != want {
				t.Errorf("%q: %v", s, !want)
			}
		}
	}
	for s, want := range map[string]bool{"": false, signs: true, "é": false, "a b": false, strings.Repeat("a", 2*most): true, "\u212a": false} {
		if digest.Token(s) != want {
			t.Errorf("%q: %v", s, !want)
		}
	}
}

func TestP8_3Quote(t *testing.T) {
	for b := range 256 {
		sign := string([]byte{byte(b)})
		want, ok := `"`+sign+`"`, b == 9 || b >= 32 && b != 127
		if b == '"' || b == '\\' {
			want = `"\` + sign + `"`
		}
		if !ok {
			want = ""
		}
		if got, isOK := digest.Quote(sign); got != want || isOK != ok {
			t.Errorf("%q: %q, %v", sign, got, isOK)
		}
		if got, isOK := digest.Quote("a" + sign + "a"); isOK != ok || (got == "") == ok {
			t.Errorf("%q between others: %q, %v", sign, got, isOK)
		}
	}
	everyText([]string{"a", `"`, `\`, "é", "\x80", " "}, 5, func(s string) {
		got, ok := digest.Quote(s)
		if !ok || got != value(s) || !quotedForm.MatchString(got) || unquote(got) != s {
			t.Fatalf("%q: %q, %v", s, got, ok)
		}
	})
}

func TestP8_3Count(t *testing.T) {
	for n, want := range map[uint32]string{0: "00000000", 1: "00000001", 10: "0000000a", 0x12345678: "12345678", 0xabcdef: "00abcdef", math.MaxUint32: "ffffffff", 1 << 31: "80000000"} {
		if got := digest.Count(n); got != want {
			t.Errorf("%d: %q", n, got)
		}
	}
}

// TestP1Anything: no call panics, whatever bytes it is given.
func TestP1Anything(t *testing.T) {
	random := rand.New(rand.NewSource(6))
	pieces := []string{"Digest ", "realm", "nonce", "=", ",", `"`, `\`, " ", "\t", "a", "\x00", "\xff", "qop", "auth", "algorithm=SHA-256", "stale=true", `nonce="n"`}
	for range 30000 {
		s := ""
		for range random.Intn(12) {
			s += pieces[random.Intn(len(pieces))]
		}
		checkScan(t, s)
		checkParse(t, s)
		checkChallenge(t, s)
		checkAnswer(t, s)
		digest.Token(s)
		digest.Quote(s)
	}
}
