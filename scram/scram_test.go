package scram_test

import (
	"bytes"
	"encoding/base64"
	"math/rand"
	"regexp"
	"slices"
	"strconv"
	"strings"
	"testing"
	"unicode/utf8"

	"ostiary/api"
	"ostiary/scram"
)

const most = 4096 // bytes of a message

var (
	tag    = []byte("0123456789abcdef0123456789ABCDEF")
	tag64  = base64.StdEncoding.EncodeToString(tag)
	zeros  = make([]byte, 32)
	zero64 = strings.Repeat("A", 43) + "="
)

// The syntax, as regular expressions. Whether a text is valid UTF-8 is asked of the whole, because all but its values and names is ASCII.
const (
	value   = `[^,\x00]+`
	escaped = `(?:[^,=\x00]|=2C|=3D)+`
	nonce   = `[!-+\--~]{1,64}`
	head    = `(n|y|p=[A-Za-z0-9.-]+),(?:a=(` + escaped + `))?,`
	ext     = `((?:,[A-Za-z]=` + value + `)*)`
	extNoP  = `((?:,[A-Za-oq-z]=` + value + `)*)`
	coded   = `([A-Za-z0-9+/=]*)`
)

var (
	firstForm     = regexp.MustCompile(`^` + head + `(m=` + value + `,)?n=(` + escaped + `),r=(` + nonce + `)` + ext + `$`)
	headForm      = regexp.MustCompile(`^` + head + `$`)
	challengeForm = regexp.MustCompile(`^r=(` + nonce + `),s=` + coded + `,i=([1-9][0-9]?)` + ext + `$`)
	finalForm     = regexp.MustCompile(`^c=` + coded + `,r=(` + nonce + `)` + extNoP + `,p=` + coded + `$`)
	verdictForm   = regexp.MustCompile(`^(?:v=` + coded + `|e=(` + value + `))` + ext + `$`)
)

func match(form *regexp.Regexp, s string) []string {
	if !utf8.ValidString(s) {
		return nil
	}
	return form.FindStringSubmatch(s)
}

func unescape(s string) string {
	return strings.NewReplacer("=2C", ",", "=3D", "=").Replace(s)
}

// decode returns the bytes of a Base64 text, if these are from least to most.
func decode(s string, least, most int) ([]byte, bool) {
	p, err := base64.StdEncoding.Strict().DecodeString(s)
	return p, err == nil && len(p) >= least && len(p) <= most
}

// pairs reads extensions, each with the comma ahead of it, and reports whether one is mandatory.
func pairs(s string) ([]api.Pair, bool) {
	var list []api.Pair
	mandatory := false
	for _, piece := range strings.Split(s, ",")[1:] {
		list = append(list, api.Pair{Name: piece[:1], Value: piece[2:]})
		mandatory = mandatory || piece[0] == 'm'
	}
	return list, mandatory
}

func wantFirst(s string) (scram.First, api.Errno) {
	m := match(firstForm, s)
	if len(s) > most {
		return scram.First{}, api.ErrLong
	}
	if m == nil {
		return scram.First{}, api.ErrForm
	}
	list, mandatory := pairs(m[6])
	if mandatory || m[3] != "" || m[1][0] == 'p' {
		return scram.First{}, api.ErrDenied
	}
	return scram.First{Flag: m[1], Authz: unescape(m[2]), User: unescape(m[4]), Nonce: m[5], Ext: list}, api.OK
}

func wantChallenge(s string) (scram.Challenge, api.Errno) {
	m := match(challengeForm, s)
	if len(s) > most {
		return scram.Challenge{}, api.ErrLong
	}
	if m == nil {
		return scram.Challenge{}, api.ErrForm
	}
	salt, ok := decode(m[2], 1, 32)
	n, _ := strconv.Atoi(m[3])
	list, mandatory := pairs(m[4])
	switch {
	case !ok || n > 64:
		return scram.Challenge{}, api.ErrForm
	case mandatory:
		return scram.Challenge{}, api.ErrDenied
	}
	return scram.Challenge{Nonce: m[1], Salt: salt, Iter: n, Ext: list}, api.OK
}

func wantFinal(s string) (scram.Final, api.Errno) {
	m := match(finalForm, s)
	if len(s) > most {
		return scram.Final{}, api.ErrLong
	}
	if m == nil {
		return scram.Final{}, api.ErrForm
	}
	text, ok := decode(m[1], 0, most)
	proof, okProof := decode(m[4], 32, 32)
	h := match(headForm, string(text))
	list, mandatory := pairs(m[3])
	switch {
	case !ok || !okProof || h == nil:
		return scram.Final{}, api.ErrForm
	case mandatory || h[1][0] == 'p':
		return scram.Final{}, api.ErrDenied
	}
	return scram.Final{Head: string(text), Nonce: m[2], Ext: list, Proof: proof}, api.OK
}

func wantVerdict(s string) (scram.Verdict, api.Errno) {
	m := match(verdictForm, s)
	if len(s) > most {
		return scram.Verdict{}, api.ErrLong
	}
	if m == nil {
		return scram.Verdict{}, api.ErrForm
	}
	sum, ok := decode(m[1], 32, 32)
	list, mandatory := pairs(m[3])
	switch {
	case m[2] == "" && !ok:
		return scram.Verdict{}, api.ErrForm
	case mandatory:
		return scram.Verdict{}, api.ErrDenied
	}
	if m[2] != "" {
		sum = nil
	}
	return scram.Verdict{Sum: sum, Code: m[2], Ext: list}, api.OK
}

func sameFirst(m, o scram.First) bool {
	return m.Flag == o.Flag && m.Authz == o.Authz && m.User == o.User && m.Nonce == o.Nonce && slices.Equal(m.Ext, o.Ext)
}

func sameChallenge(m, o scram.Challenge) bool {
	return m.Nonce == o.Nonce && bytes.Equal(m.Salt, o.Salt) && m.Iter == o.Iter && slices.Equal(m.Ext, o.Ext)
}

func sameFinal(m, o scram.Final) bool {
	return m.Head == o.Head && m.Nonce == o.Nonce && slices.Equal(m.Ext, o.Ext) && bytes.Equal(m.Proof, o.Proof)
}

func sameVerdict(m, o scram.Verdict) bool {
	return bytes.Equal(m.Sum, o.Sum) && m.Code == o.Code && slices.Equal(m.Ext, o.Ext)
}

// A message is what the tests do with any of the four kinds.
type message interface {
	Text() (string, api.Errno)
}

// A kind compares a Parse function with the expectation, and tells what both return.
type kind struct {
	name  string
	check func(t *testing.T, s string) (message, api.Errno)
	seeds []string
}

func checker[M message](name string, parse, want func(string) (M, api.Errno), same func(M, M) bool) func(*testing.T, string) (message, api.Errno) {
	return func(t *testing.T, s string) (message, api.Errno) {
		t.Helper()
		expected, wantErrno := want(s)
		m, e := parse(s)
		if e != wantErrno || !same(m, expected) {
			t.Fatalf("%s %q: %+v, %d, not %+v, %d", name, s, m, e, expected, wantErrno)
		}
		return m, e
	}
}

func kinds() []kind {
	return []kind{
		{"first", checker("first", scram.ParseFirst, wantFirst, sameFirst), []string{
			"n,,n=user,r=abc",
			"y,a=x=2Cy,n=us=3Der,r=rOprNGfwEbeRWgbNEkqO,z=1,Q=a=b",
			"p=tls-exporter.1,,n=u,r=a",
			"n,,m=q,n=u,r=a,m=1",
			"n,a=é,n=Ⅸ😀,r=~!,e=ü",
		}},
		{"challenge", checker("challenge", scram.ParseChallenge, wantChallenge, sameChallenge), []string{
			"r=rOprNGfwEbeRWgbNEkqO%hvYDpWUa2RaTCAfuxFIlj)hNlF$k0,s=W22ZaJ0SNY7soEsUEjb6gQ==,i=40",
			"r=a,s=AA==,i=1,x=y,r=z",
			"r=a,s=AAE=,i=64,m=1",
		}},
		{"final", checker("final", scram.ParseFinal, wantFinal, sameFinal), []string{
			"c=biws,r=abc,p=" + tag64,
			"c=eSxhPXg9MkN5LA==,r=a,m=n,p=" + tag64,
			"c=cD10LCw=,r=a,x=1,y=é,p=" + tag64,
		}},
		{"verdict", checker("verdict", scram.ParseVerdict, wantVerdict, sameVerdict), []string{
			"v=" + tag64,
			"v=" + zero64 + ",e=x,m=1",
			"e=invalid-proof",
			"e=é=,v=1",
		}},
	}
}

// checkText: a parsed message has the text from which it was parsed.
func checkText(t *testing.T, m message, errno api.Errno, s string) {
	t.Helper()
	if errno != api.OK {
		return
	}
	if text, e := m.Text(); text != s || e != api.OK {
		t.Fatalf("%+v: %q, %d, not %q", m, text, e, s)
	}
}

func TestP7_1Examples(t *testing.T) {
	m, e := scram.ParseFirst("n,,n=user,r=abc")
	if e != api.OK || !sameFirst(m, scram.First{Flag: "n", User: "user", Nonce: "abc"}) {
		t.Error(m, e)
	}
	if bare, e := m.Bare(); m.Head() != "n,," || bare != "n=user,r=abc" || e != api.OK {
		t.Error(m.Head(), bare, e)
	}
	if m, e := scram.ParseFirst("p=tls,,n=u,r=a"); e != api.ErrDenied || !sameFirst(m, scram.First{}) {
		t.Error(m, e)
	}
}

// TestP7_1RFC: the exchange of RFC 7677, with fewer rounds.
func TestP7_1RFC(t *testing.T) {
	for i, s := range []string{
		"n,,n=user,r=rOprNGfwEbeRWgbNEkqO",
		"r=rOprNGfwEbeRWgbNEkqO%hvYDpWUa2RaTCAfuxFIlj)hNlF$k0,s=W22ZaJ0SNY7soEsUEjb6gQ==,i=40",
		"c=biws,r=rOprNGfwEbeRWgbNEkqO%hvYDpWUa2RaTCAfuxFIlj)hNlF$k0,p=dHzbZapWIk4jUhN+Ute9ytag9zjfMHgsqmmiz7AndVQ=",
		"v=6rriTRBi23WpRR/wtup+mMhUZUn/dB5nLTJRsjl95G4=",
	} {
		m, e := kinds()[i].check(t, s)
		if e != api.OK {
			t.Errorf("%q: %d", s, e)
		}
		checkText(t, m, e, s)
	}
}

// TestP7_1EveryChange: each valid message, with any byte replaced, inserted or left out at any place, and with any piece of it repeated or left out.
func TestP7_1EveryChange(t *testing.T) {
	for _, k := range kinds() {
		ends := map[api.Errno]int{}
		try := func(parts ...string) {
			t.Helper()
			s := strings.Join(parts, "")
			m, e := k.check(t, s)
			checkText(t, m, e, s)
			ends[e]++
		}
		for _, s := range k.seeds {
			for at := range len(s) + 1 {
				for b := range 256 {
					sign := string([]byte{byte(b)})
					try(s[:at], sign, s[at:])
					if at < len(s) {
						try(s[:at], sign, s[at+1:])
					}
				}
				try(s[:at])
				for end := at; end <= len(s); end++ {
					try(s[:at], s[end:])
					try(s[:end], s[at:])
				}
			}
		}
		for _, e := range []api.Errno{api.OK, api.ErrForm, api.ErrDenied} {
			if ends[e] < 50 {
				t.Errorf("%s: error %d %d times", k.name, e, ends[e])
			}
		}
	}
}

// TestP7_1Pieces: messages of pieces that are right and wrong, in any number and order.
func TestP7_1Pieces(t *testing.T) {
	pieces := strings.Split("n|y|p=x|p|N|p=|p=a_b||a=x|a=|a==2C|a==2c|a=\xff|a=\x00|m=q|m=|m|n=user|n=|n=a=b|r=abc|r=|r=a b|r="+strings.Repeat("a", 64)+"|r="+strings.Repeat("a", 65)+
		"|s=AA==|s=|s=AB==|s=AA|s="+strings.Repeat("AAAA", 11)+"|s="+strings.Repeat("AAAA", 10)+"AAA=|i=1|i=64|i=65|i=0|i=01|i=|i=+1|i=-1|i=1 |x=y|x=|x=\xc3|1=y|=y|é=y|xx=y|x"+
		"|c=biws|c=biw=|c=cD14LCw=|c=biwsbg==|c=bg==|c=biw=|c=eCws|c=biwsLA==|c=bixhPSw=|c=bixhPf8s|c=bixhLA==|c=|c=biws=|p="+tag64+"|p=AA==|p="+tag64+tag64+"|v="+tag64+"|v=|v="+tag64[:40]+"|e=other-error|e=|e=\x00", "|")
	random := rand.New(rand.NewSource(7))
	for _, k := range kinds() {
		ends := map[api.Errno]int{}
		for _, seed := range k.seeds {
			right := strings.Split(seed, ",")
			for range 20000 {
				list := slices.Clone(right)
				for range 1 + random.Intn(2) {
					at := random.Intn(len(list) + 1)
					piece := pieces[random.Intn(len(pieces))]
					switch random.Intn(4) {
					case 0:
						list = slices.Insert(list, at, piece)
					case 1:
						list = slices.Delete(list, min(at, len(list)-1), len(list))
						list = append(list, piece)
					case 2:
						other := random.Intn(len(list))
						at = min(at, len(list)-1)
						list[at], list[other] = list[other], list[at]
					default:
						list[min(at, len(list)-1)] = piece
					}
				}
				s := strings.Join(list, ",")
				m, e := k.check(t, s)
				checkText(t, m, e, s)
				ends[e]++
			}
		}
		for _, e := range []api.Errno{api.OK, api.ErrForm, api.ErrDenied} {
			if ends[e] < 50 {
				t.Errorf("%s: error %d %d times", k.name, e, ends[e])
			}
		}
	}
}

func TestP7_1First(t *testing.T) {
	for s, want := range map[string]api.Errno{
		"":                                    api.ErrForm,
		"n":                                   api.ErrForm,
		"n,":                                  api.ErrForm,
		"n,,":                                 api.ErrForm,
		"n,,n=u":                              api.ErrForm,
		"n,,r=a,n=u":                          api.ErrForm,
		"n,n=u,r=a":                           api.ErrForm,
		"n,,n=u,r=a":                          api.OK,
		"y,,n=u,r=a":                          api.OK,
		"Y,,n=u,r=a":                          api.ErrForm,
		"ny,,n=u,r=a":                         api.ErrForm,
		",,n=u,r=a":                           api.ErrForm,
		"p,,n=u,r=a":                          api.ErrForm,
		"p=,,n=u,r=a":                         api.ErrForm,
		"p=a.B-9,,n=u,r=a":                    api.ErrDenied,
		"p=a_,,n=u,r=a":                       api.ErrForm,
		"p=a=b,,n=u,r=a":                      api.ErrForm,
		"p=é,,n=u,r=a":                        api.ErrForm,
		"p=tls,,n=,r=a":                       api.ErrForm,
		"p=tls,,n=u,r=a,":                     api.ErrForm,
		"n,a=,n=u,r=a":                        api.ErrForm,
		"n,a,n=u,r=a":                         api.ErrForm,
		"n,b=x,n=u,r=a":                       api.ErrForm,
		"n,a=x=,n=u,r=a":                      api.ErrForm,
		"n,a=x=2c,n=u,r=a":                    api.ErrForm,
		"n,a=\x00,n=u,r=a":                    api.ErrForm,
		"n,a=\xed\xa0\x80,n=u,r=a":            api.ErrForm,
		"n,,m=q,n=u,r=a":                      api.ErrDenied,
		"n,,m=q=q,n=u,r=a":                    api.ErrDenied,
		"n,,m=,n=u,r=a":                       api.ErrForm,
		"n,,m=\xff,n=u,r=a":                   api.ErrForm,
		"n,,m=q,m=q,n=u,r=a":                  api.ErrForm,
		"n,,x=q,n=u,r=a":                      api.ErrForm,
		"n,,n=u,m=q,r=a":                      api.ErrForm,
		"n,,m=q,n=u":                          api.ErrForm,
		"n,,n=u,r=a,m=q":                      api.ErrDenied,
		"n,,n=u,r=a,x=1,m=q":                  api.ErrDenied,
		"n,,n=u,r=a,m=q,x=":                   api.ErrForm,
		"n,,n=u,r=a,M=q":                      api.OK,
		"n,,n=u,r=a,x=":                       api.ErrForm,
		"n,,n=u,r=a,x=\x00":                   api.ErrForm,
		"n,,n=u,r=a,x=\xff":                   api.ErrForm,
		"n,,n=u,r=a,1=x":                      api.ErrForm,
		"n,,n=u,r=a,==x":                      api.ErrForm,
		"n,,n=u,r=a,xy=1":                     api.ErrForm,
		"n,,n=u,r=a,x":                        api.ErrForm,
		"n,,n=u,r=a,,x=1":                     api.ErrForm,
		"n,,n=u,r=a,x=y=z":                    api.OK,
		"n,,n=u,r=a,a=1,n=2,r=3,p=4,A=\n":     api.OK,
		"n,,n=u=2C=3D,r=a":                    api.OK,
		"n,,n=u=2D,r=a":                       api.ErrForm,
		"n,,n=u\x00,r=a":                      api.ErrForm,
		"n,,n=\xc0\x80,r=a":                   api.ErrForm,
		"n,,n=u,r=":                           api.ErrForm,
		"n,,n=u,r=\x20":                       api.ErrForm,
		"n,,n=u,r=\x7f":                       api.ErrForm,
		"n,,n=u,r=\x80":                       api.ErrForm,
		"n,,n=u,r=é":                          api.ErrForm,
		"n,,n= ,r=!~":                         api.OK,
		" n,,n=u,r=a":                         api.ErrForm,
		"n,,n=u,r=a ":                         api.ErrForm,
		"n,,n=u,r=a\n":                        api.ErrForm,
		"n,,n=u,r=" + strings.Repeat("=", 64): api.OK,
		"n,,n=u,r=" + strings.Repeat("=", 65): api.ErrForm,
	} {
		if m, e := kinds()[0].check(t, s); e != want {
			t.Errorf("%q: %+v, %d, not %d", s, m, e, want)
		}
	}
}

func TestP7_1Challenge(t *testing.T) {
	for s, want := range map[string]api.Errno{
		"":                                  api.ErrForm,
		"r=a,s=AA==,i=1":                    api.OK,
		"s=AA==,r=a,i=1":                    api.ErrForm,
		"r=a,s=AA==":                        api.ErrForm,
		"r=a,i=1":                           api.ErrForm,
		"r=a,s=,i=1":                        api.ErrForm,
		"r=a,s=AA,i=1":                      api.ErrForm,
		"r=a,s=AB==,i=1":                    api.ErrForm,
		"r=a,s=AA=,i=1":                     api.ErrForm,
		"r=a,s=-_-_,i=1":                    api.ErrForm,
		"r=a,s=+/+/,i=1":                    api.OK,
		"r=a,s=AA==,i=":                     api.ErrForm,
		"r=a,s=AA==,i=0":                    api.ErrForm,
		"r=a,s=AA==,i=01":                   api.ErrForm,
		"r=a,s=AA==,i=9":                    api.OK,
		"r=a,s=AA==,i=10":                   api.OK,
		"r=a,s=AA==,i=64":                   api.OK,
		"r=a,s=AA==,i=65":                   api.ErrForm,
		"r=a,s=AA==,i=100":                  api.ErrForm,
		"r=a,s=AA==,i=4096":                 api.ErrForm,
		"r=a,s=AA==,i=-1":                   api.ErrForm,
		"r=a,s=AA==,i=+1":                   api.ErrForm,
		"r=a,s=AA==,i=1.":                   api.ErrForm,
		"r=a,s=AA==,i=0x1":                  api.ErrForm,
		"r=a,s=AA==,i=1,m=x":                api.ErrDenied,
		"m=x,r=a,s=AA==,i=1":                api.ErrForm,
		"r=a,s=AA==,i=1,m=":                 api.ErrForm,
		"r=a,s=AA==,i=1,p=1":                api.OK,
		"r=a,s=AA==,i=1,":                   api.ErrForm,
		"r=,s=AA==,i=1":                     api.ErrForm,
		"r=a\x1f,s=AA==,i=1":                api.ErrForm,
		",r=a,s=AA==,i=1":                   api.ErrForm,
		"r=a,s=AA==,i=1,x=1,x":              api.ErrForm,
		"r=a,s=AA==,i=18446744073709551617": api.ErrForm,
		"r=a,s=" + strings.Repeat("A", 43) + "=,i=1":                    api.OK,
		"r=a,s=" + strings.Repeat("A", 44) + ",i=1":                     api.ErrForm,
		"r=" + strings.Repeat("~", 64) + ",s=AA==,i=1":                  api.OK,
		"r=" + strings.Repeat("~", 65) + ",s=AA==,i=1":                  api.ErrForm,
		"r=a,s=" + strings.Repeat("A", 44) + ",i=1,m=x":                 api.ErrForm,
		"r=a,s=" + strings.Repeat("A", 43) + "=,i=1,m=x,y=z":            api.ErrDenied,
		"r=a,s=" + strings.Repeat("A", 43) + "=,i=1,m=x,y=z,z=\xf0\x9f": api.ErrForm,
	} {
		if m, e := kinds()[1].check(t, s); e != want {
			t.Errorf("%q: %+v, %d, not %d", s, m, e, want)
		}
	}
}

func TestP7_1Final(t *testing.T) {
	final := func(head, rest string) string {
		return "c=" + base64.StdEncoding.EncodeToString([]byte(head)) + rest
	}
	end := ",r=a,p=" + tag64
	for s, want := range map[string]api.Errno{
		"":                                   api.ErrForm,
		final("n,,", end):                    api.OK,
		final("y,a=x=2C=3D,", end):           api.OK,
		final("p=x,,", end):                  api.ErrDenied,
		final("p=x,a=y,", end):               api.ErrDenied,
		final("p=x,a=,", end):                api.ErrForm,
		final("p=,,", end):                   api.ErrForm,
		final("p,,", end):                    api.ErrForm,
		final("", end):                       api.ErrForm,
		final("n", end):                      api.ErrForm,
		final("n,", end):                     api.ErrForm,
		final("n,,n", end):                   api.ErrForm,
		final("n,,,", end):                   api.ErrForm,
		final("n,a=x", end):                  api.ErrForm,
		final("n,x=x,", end):                 api.ErrForm,
		final("n,a=\xff,", end):              api.ErrForm,
		final("n,a==,", end):                 api.ErrForm,
		final("x,,", end):                    api.ErrForm,
		final("n,,n=u,r=a", end):             api.ErrForm,
		"c=biw" + end:                        api.ErrForm,
		"c=biws=" + end:                      api.ErrForm,
		"c" + end:                            api.ErrForm,
		"r=a,c=biws,p=" + tag64:              api.ErrForm,
		"c=biws,p=" + tag64:                  api.ErrForm,
		"c=biws,r=a":                         api.ErrForm,
		"c=biws,r=a,":                        api.ErrForm,
		"c=biws,r=a,p=":                      api.ErrForm,
		"c=biws,r=a,p=AA==":                  api.ErrForm,
		"c=biws,r=a,p=" + tag64 + ",":        api.ErrForm,
		"c=biws,r=a,p=" + tag64 + ",x=1":     api.ErrForm,
		"c=biws,r=a,p=" + tag64 + tag64:      api.ErrForm,
		"c=biws,r=a,x=1,p=" + tag64:          api.OK,
		"c=biws,r=a,m=1,p=" + tag64:          api.ErrDenied,
		"c=biws,r=a,m=,p=" + tag64:           api.ErrForm,
		"c=biws,r=a,p=1,p=" + tag64:          api.ErrForm,
		"c=biws,r=a,p=" + tag64 + end:        api.ErrForm,
		"c=biws,r=a,m=1,p=1,p=" + tag64:      api.ErrForm,
		"c=biws,r=a,P=1,c=2,r=3,p=" + tag64:  api.OK,
		"c=biws,r=a,x=1,,p=" + tag64:         api.ErrForm,
		"c=biws,m=1,r=a,p=" + tag64:          api.ErrForm,
		"c=cD14LCw=,r=a,m=1":                 api.ErrForm,
		"c=cD14LCw=,r=,p=" + tag64:           api.ErrForm,
		"c=biws,r=a,p=" + zero64:             api.OK,
		"c=biws,r=a,p=" + zero64[:42] + "B=": api.ErrForm,
		"c=biws,r=a,p=" + zero64[:43]:        api.ErrForm,
		"c=biws,r=a,p=" + zero64[:42] + "==": api.ErrForm,
		"c=biws,r=a,p=" + zero64[:43] + "A":  api.ErrForm,
	} {
		if m, e := kinds()[2].check(t, s); e != want {
			t.Errorf("%q: %+v, %d, not %d", s, m, e, want)
		}
	}
}

func TestP7_1Verdict(t *testing.T) {
	for s, want := range map[string]api.Errno{
		"":                           api.ErrForm,
		"v=" + tag64:                 api.OK,
		"v=" + zero64:                api.OK,
		"v=":                         api.ErrForm,
		"v":                          api.ErrForm,
		"v=AA==":                     api.ErrForm,
		"v=" + tag64[:43]:            api.ErrForm,
		"v=" + tag64 + tag64:         api.ErrForm,
		"v=" + tag64 + ",":           api.ErrForm,
		"v=" + tag64 + ",e=x":        api.OK,
		"v=" + tag64 + ",m=x":        api.ErrDenied,
		"v=AA==,m=x":                 api.ErrForm,
		"e=":                         api.ErrForm,
		"e=x":                        api.OK,
		"e=x=y z\n":                  api.OK,
		"e=x,y":                      api.ErrForm,
		"e=\x00":                     api.ErrForm,
		"e=\x80":                     api.ErrForm,
		"e=x,m=x":                    api.ErrDenied,
		"e=,m=x":                     api.ErrForm,
		"e=x,v=" + tag64:             api.OK,
		"e=x,x=":                     api.ErrForm,
		"x=1,e=x":                    api.ErrForm,
		"m=1,e=x":                    api.ErrForm,
		"V=" + tag64:                 api.ErrForm,
		"n,,n=u,r=a":                 api.ErrForm,
		"e=x,m=1,m=2,x=\xed\xbf\xbf": api.ErrForm,
	} {
		if m, e := kinds()[3].check(t, s); e != want {
			t.Errorf("%q: %+v, %d, not %d", s, m, e, want)
		}
	}
}

// TestP7_1Long: the length is looked at first, whatever the text is.
func TestP7_1Long(t *testing.T) {
	for i, text := range []string{"n,,n=u,r=a,x=", "r=a,s=AA==,i=1,x=", "c=biws,r=a,p=" + tag64 + ",x=", "e="} {
		k := kinds()[i]
		for _, s := range []string{text, "m" + text, ",", "\xff", "p=x" + text[1:]} {
			for _, n := range []int{most - 1, most, most + 1, 3 * most} {
				_, e := k.check(t, s+strings.Repeat("y", n-len(s)))
				if (n > most) != (e == api.ErrLong) {
					t.Errorf("%s with %d bytes: %d", k.name, n, e)
				}
			}
		}
	}
	for n := 2990; n < 3050; n++ { // a head may be as long as the message allows
		head := "n,a=" + strings.Repeat("x", n) + ","
		s := "c=" + base64.StdEncoding.EncodeToString([]byte(head)) + ",r=a,p=" + tag64
		want := api.OK
		if len(s) > most {
			want = api.ErrLong
		}
		if m, e := scram.ParseFinal(s); e != want || e == api.OK && m.Head != head {
			t.Errorf("a head of %d bytes: %d", len(head), e)
		}
	}
}

// TestP7_1Text: messages with fields of any kind have a text only if it is parsed as the same message.
func TestP7_1Text(t *testing.T) {
	random := rand.New(rand.NewSource(3))
	pick := func(list ...string) string { return list[random.Intn(len(list))] }
	anyExt := func() []api.Pair {
		var list []api.Pair
		for range random.Intn(5) - 2 {
			list = append(list, api.Pair{
				Name:  pick("x", "x", "Z", "r", "a", "p", "m", "", "xy", "1", "é", "\xff", "=", ","),
				Value: pick("y", "y", "y=z", "é", "", "\x00", "a,b", "a,b=c", "\xff"),
			})
		}
		return list
	}
	anyNonce := func() string {
		return pick("abc", "abc", "abc", "~", strings.Repeat("a", 64), strings.Repeat("a", 65), "", "a,b", "a,b=c", "a b", "é")
	}
	anyTag := func() []byte {
		return [][]byte{tag, tag, tag, zeros, nil, {}, tag[:31], append(tag[:32:32], 1)}[random.Intn(8)]
	}
	ends := [4]map[api.Errno]int{{}, {}, {}, {}}
	for range 40000 {
		first := scram.First{
			Flag:  pick("n", "n", "y", "y", "p", "", "p=x", "N", "n,", "n,a=b", "n,,n=u,r=a"),
			Authz: pick("", "", "ann", "a,b=c", "é", "\x00", "\xff"),
			User:  pick("ann", "ann", "a,b", "=2C", "é", "", "\x00", "\xc3"),
			Nonce: anyNonce(), Ext: anyExt(),
		}
		want := first.Flag + ","
		if first.Authz != "" {
			want += "a=" + strings.NewReplacer(",", "=2C", "=", "=3D").Replace(first.Authz)
		}
		want += ","
		if first.Head() != want {
			t.Fatalf("%+v: head %q", first, first.Head())
		}
		want += "n=" + strings.NewReplacer(",", "=2C", "=", "=3D").Replace(first.User) + ",r=" + first.Nonce
		back, errno := wantFirst(want + printed(first.Ext))
		ends[0][checkWritten(t, first, want+printed(first.Ext), errno == api.OK && sameFirst(back, first))]++

		challenge := scram.Challenge{
			Nonce: anyNonce(),
			Salt:  [][]byte{{1}, tag, []byte("salt"), []byte("salt"), nil, append(tag[:32:32], 1)}[random.Intn(6)],
			Iter:  []int{1, 64, 40, 4, 0, 65, -1, 1 << 62}[random.Intn(8)],
			Ext:   anyExt(),
		}
		want = "r=" + challenge.Nonce + ",s=" + base64.StdEncoding.EncodeToString(challenge.Salt) + ",i=" + strconv.Itoa(challenge.Iter) + printed(challenge.Ext)
		back2, errno := wantChallenge(want)
		ends[1][checkWritten(t, challenge, want, errno == api.OK && sameChallenge(back2, challenge))]++

		final := scram.Final{
			Head:  pick("n,,", "n,,", "y,,", "n,a=x=2C,", "p=x,,", "", "n,", "n,,x", "n,a=,", "n,a=\xff,", "x,,"),
			Nonce: anyNonce(), Ext: anyExt(), Proof: anyTag(),
		}
		without := "c=" + base64.StdEncoding.EncodeToString([]byte(final.Head)) + ",r=" + final.Nonce + printed(final.Ext)
		want = without + ",p=" + base64.StdEncoding.EncodeToString(final.Proof)
		back3, errno := wantFinal(want)
		e := checkWritten(t, final, want, errno == api.OK && sameFinal(back3, final))
		ends[2][e]++
		if e != api.OK {
			without = ""
		}
		if text, e2 := final.Without(); text != without || e2 != e {
			t.Fatalf("%+v without its proof: %q, %d", final, text, e2)
		}

		verdict := scram.Verdict{Sum: anyTag(), Code: pick("", "", "", "e", "other-error", "a,b", "a,b=c", "\x00", "\xff"), Ext: anyExt()}
		want = "e=" + verdict.Code + printed(verdict.Ext)
		if len(verdict.Sum) > 0 {
			want = "v=" + base64.StdEncoding.EncodeToString(verdict.Sum) + printed(verdict.Ext)
		}
		back4, errno := wantVerdict(want)
		ends[3][checkWritten(t, verdict, want, errno == api.OK && sameVerdict(back4, verdict))]++
	}
	for i, counts := range ends {
		if counts[api.OK] < 1000 || counts[api.ErrForm] < 1000 {
			t.Errorf("%s: %v", kinds()[i].name, counts)
		}
	}
}

// printed writes extensions, each with a comma ahead of it.
func printed(list []api.Pair) string {
	s := ""
	for _, x := range list {
		s += "," + x.Name + "=" + x.Value
	}
	return s
}

// checkWritten checks that a message has that text if there is one, and ErrForm otherwise.
func checkWritten(t *testing.T, m message, want string, valid bool) api.Errno {
	t.Helper()
	wantErrno := api.OK
	if !valid {
		want, wantErrno = "", api.ErrForm
	}
	text, e := m.Text()
	if text != want || e != wantErrno {
		t.Fatalf("%+v: %q, %d, not %q, %d", m, text, e, want, wantErrno)
	}
	if first, ok := m.(scram.First); ok {
		bare, e := first.Bare()
		if e != wantErrno || e == api.OK && first.Head()+bare != text || e != api.OK && bare != "" {
			t.Fatalf("%+v: bare %q, %d", m, bare, e)
		}
	}
	return e
}

// TestP7_1LongText: a text is too long only if it is one.
func TestP7_1LongText(t *testing.T) {
	for _, n := range []int{most - 1, most, most + 1, 2 * most} {
		// fill returns an extension with which a message of so many other bytes has n bytes.
		fill := func(others int) []api.Pair {
			return []api.Pair{{Name: "x", Value: strings.Repeat("y", n-others-len(",x="))}}
		}
		want := api.OK
		if n > most {
			want = api.ErrLong
		}
		for _, bad := range []bool{false, true} {
			first := scram.First{Flag: "n", User: "u", Nonce: "a", Ext: fill(len("n,,n=u,r=a"))}
			challenge := scram.Challenge{Nonce: "a", Salt: []byte{0}, Iter: 1, Ext: fill(len("r=a,s=AA==,i=1"))}
			final := scram.Final{Head: "n,,", Nonce: "a", Proof: tag, Ext: fill(len("c=biws,r=a,p=" + tag64))}
			verdict := scram.Verdict{Code: "a", Ext: fill(len("e=a"))}
			if bad {
				want = api.ErrForm
				first.Flag, challenge.Iter, final.Head, verdict.Code = "p", 0, "p=x,,", "\x00"
			}
			for _, call := range []func() (string, api.Errno){first.Text, first.Bare, challenge.Text, final.Text, final.Without, verdict.Text} {
				if s, e := call(); e != want || (e == api.OK) != (s != "") {
					t.Errorf("%d bytes, bad: %v: %d bytes, %d, not %d", n, bad, len(s), e, want)
				}
			}
		}
	}
	long := strings.Repeat("u", most)
	for _, m := range []scram.First{{Flag: "n", User: long, Nonce: "a"}, {Flag: "n", Authz: long, User: "u", Nonce: "a"}} {
		if s, e := m.Text(); e != api.ErrLong || s != "" {
			t.Errorf("a long name: %d", e)
		}
	}
	if s, e := (scram.Final{Head: "n,a=" + long + ",", Nonce: "a", Proof: tag}).Text(); e != api.ErrLong || s != "" {
		t.Errorf("a long head: %d", e)
	}
}

// TestP7_1Head: the head is written whatever the fields contain.
func TestP7_1Head(t *testing.T) {
	for _, c := range []struct {
		m    scram.First
		want string
	}{
		{scram.First{}, ",,"},
		{scram.First{Flag: "p"}, "p,,"},
		{scram.First{Flag: "p=tls", Authz: "a"}, "p=tls,a=a,"},
		{scram.First{Flag: "n", Authz: "=,\x00\xff"}, "n,a==3D=2C\x00\xff,"},
		{scram.First{Flag: "y", User: "u", Nonce: "a", Ext: []api.Pair{{Name: "m"}}}, "y,,"},
		{scram.First{Flag: strings.Repeat("n", most)}, strings.Repeat("n", most) + ",,"},
	} {
		if got := c.m.Head(); got != c.want {
			t.Errorf("%q, not %q", got, c.want)
		}
	}
}

// TestP7_1Memory: neither arguments nor results share memory with what is kept or returned.
func TestP7_1Memory(t *testing.T) {
	const s = "c=biws,r=a,x=1,y=2,p="
	m, _ := scram.ParseFinal(s + tag64)
	o, _ := scram.ParseFinal(s + tag64)
	clear(m.Proof[:cap(m.Proof)])
	clear(m.Ext[:cap(m.Ext)])
	if again, e := scram.ParseFinal(s + tag64); e != api.OK || !sameFinal(again, o) || !bytes.Equal(o.Proof, tag) || o.Ext[1].Value != "2" {
		t.Error(again, o, e)
	}
	list := []api.Pair{{Name: "x", Value: "1"}, {Name: "y", Value: "2"}, {Name: "z", Value: "3"}}
	before := slices.Clone(list)
	salt := append(slices.Clone(tag[:8]), tag...)
	for range 2 {
		if text, e := (scram.Challenge{Nonce: "a", Salt: salt[:8], Iter: 1, Ext: list[:2]}).Text(); e != api.OK || !strings.HasSuffix(text, ",i=1,x=1,y=2") {
			t.Error(text, e)
		}
	}
	if !slices.Equal(list, before) || !bytes.Equal(salt, append(slices.Clone(tag[:8]), tag...)) {
		t.Error("an argument was changed")
	}
}

func TestP7_2Nonce(t *testing.T) {
	for b := range 256 {
		sign := string([]byte{byte(b)})
		want := b >= 0x21 && b <= 0x7e && b != ','
		for _, s := range []string{sign, "a" + sign, sign + "a", "a" + sign + "a", strings.Repeat("a", 63) + sign} {
			if scram.Nonce(s) != want {
				t.Errorf("%q: %v", s, !want)
			}
		}
	}
	for n := range 200 {
		if scram.Nonce(strings.Repeat("n", n)) != (n >= 1 && n <= 64) {
			t.Errorf("%d bytes", n)
		}
	}
}

func TestP7_2Attributes(t *testing.T) {
	for _, c := range []struct{ s, want string }{
		{"", ""},
		{"a=b", "a:b "},
		{"a=", "a: "},
		{"a", ""},
		{"=", ""},
		{"==", "=: "},
		{"===", "=:= "},
		{",", ""},
		{"a=b,c=d", "a:b c:d "},
		{"a=b,", "a:b "},
		{",a=b", ""},
		{"a=b,,c=d", "a:b "},
		{"a=b,c,d=e", "a:b "},
		{"ab=c", ""},
		{"a=b,cd=e,f=g", "a:b "},
		{"1=2,\x00=\x00,\xff=\xff", "1:2 \x00:\x00 \xff:\xff "},
		{"é=x", ""},
		{"a=b=c,a=b,m=n", "a:b=c a:b m:n "},
		{"n,,n=user,r=abc", ""},
		{"n=user,r=abc", "n:user r:abc "},
		{"a=b, c=d", "a:b "},
		{"a\n=b", ""},
		{"a=\n,b=é", "a:\n b:é "},
	} {
		all := scram.Attributes(c.s)
		for range 2 {
			got := ""
			for letter, value := range all {
				got += letter + ":" + value + " "
			}
			if got != c.want {
				t.Errorf("%q: %q, not %q", c.s, got, c.want)
			}
		}
	}
}

func TestP7_2AttributesStops(t *testing.T) {
	all := scram.Attributes("a=1,b=2,c=3,d")
	for stop := 1; stop <= 3; stop++ {
		got := ""
		for letter, value := range all {
			got += letter + value
			if len(got) == 2*stop {
				break
			}
		}
		if got != "a1b2c3"[:2*stop] {
			t.Errorf("stopped at %d: %q", stop, got)
		}
	}
}

// TestP1Anything: no call panics, whatever bytes it is given.
func TestP1Anything(t *testing.T) {
	random := rand.New(rand.NewSource(5))
	const signs = "nypacrsievm=,,==2CDA\x00\xff\xc3\xa9 +/"
	for range 50000 {
		p := make([]byte, random.Intn(24))
		for i := range p {
			p[i] = signs[random.Intn(len(signs))]
		}
		for _, k := range kinds() {
			m, e := k.check(t, string(p))
			checkText(t, m, e, string(p))
		}
		for range scram.Attributes(string(p)) {
		}
		scram.Nonce(string(p))
	}
}
