package quest_test

import (
	"bytes"
	"crypto/sha256"
	"encoding/base64"
	"encoding/hex"
	"fmt"
	"math"
	"math/rand"
	"reflect"
	"slices"
	"strings"
	"testing"

	"ostiary/api"
	"ostiary/box"
	"ostiary/cred"
	"ostiary/nonce"
	"ostiary/proof"
	"ostiary/quest"
	"ostiary/talk"
)

// window is how many ticks a nonce lasts in these tests.
const window = 10

// hash computes with Go's own library.
func hash(text string) []byte {
	sum := sha256.Sum256([]byte(text))
	return sum[:]
}

// officeOf returns an office with room for that many nonces. Its users are ann, who has two roles, and bob, who is revoked, of tenant t, and another ann of tenant u.
func officeOf(t *testing.T, symbolic bool, room int) talk.Office {
	t.Helper()
	n, e := nonce.New(nonce.Config{Room: room, Window: window})
	if e != api.OK {
		t.Fatal(e)
	}
	o := talk.Office{Box: box.New(symbolic), Users: cred.New(), Nonces: n, Iter: 7}
	add(t, o, "t", "ann", "pencil")
	add(t, o, "t", "bob", "secret")
	add(t, o, "u", "ann", "pencil")
	for _, e := range []api.Errno{o.Users.Revoke("t", "bob", true), o.Users.Grant("t", "ann", "dev"), o.Users.Grant("t", "ann", "ops")} {
		if e != api.OK {
			t.Fatal(e)
		}
	}
	return o
}

// secretOf makes the secret of a password.
func secretOf(t *testing.T, o talk.Office, tenant, user, pass string) cred.Secret {
	t.Helper()
	x, e := cred.Make(o.Box, tenant, user, pass, []byte("salt"), 1)
	if e != api.OK {
		t.Fatal(user, e)
	}
	return x
}

// add adds a user, and the tenant if need be.
func add(t *testing.T, o talk.Office, tenant, user, pass string) {
	t.Helper()
	o.Users.AddTenant(tenant)
	if e := o.Users.Add(tenant, user, secretOf(t, o, tenant, user, pass)); e != api.OK {
		t.Fatal(user, e)
	}
}

// questOf returns a new quest.
func questOf(t *testing.T, o talk.Office, tenant string) *quest.Quest {
	t.Helper()
	q, e := quest.New(o, tenant)
	if q == nil || e != api.OK {
		t.Fatal(tenant, e)
	}
	return q
}

// challenged returns the nonce of a new challenge.
func challenged(t *testing.T, q *quest.Quest, draw string, now uint64) string {
	t.Helper()
	header, e := q.Challenge(draw, false, now)
	if e != api.OK {
		t.Fatalf("%q at %d: %d", draw, now, e)
	}
	_, rest, _ := strings.Cut(header, `nonce="`)
	text, _, _ := strings.Cut(rest, `"`)
	return text
}

// answer is what a client answers. Its user is as it is sent, and name as it is hashed with the password.
type answer struct {
	user, name, realm, pass, nonce, uri, cnonce, method string
	count                                               uint32
}

// annAnswer is the right answer of ann of tenant t.
func annAnswer(nonce string, count uint32) answer {
	return answer{user: "ann", name: "ann", realm: "t", pass: "pencil", nonce: nonce, uri: "a.b:80", cnonce: "c", method: "CONNECT", count: count}
}

// response computes the response with Go's own library, or by the handles of a symbolic box.
func (a answer) response(b *box.Box) []byte {
	ha1, ha2 := a.name+":"+a.realm+":"+a.pass, a.method+":"+a.uri
	sum := func(text string) []byte {
		if b.Symbolic() {
			return b.Hash([]byte(text))
		}
		return hash(text)
	}
	return a.answering(sum, sum(ha1), sum(ha2))
}

func (a answer) answering(sum func(string) []byte, ha1, ha2 []byte) []byte {
	return sum(fmt.Sprintf("%x:%s:%08x:%s:auth:%x", ha1, a.nonce, a.count, a.cnonce, ha2))
}

// header returns the header with a response.
func (a answer) header(response []byte) string {
	return fmt.Sprintf(`Digest username="%s", realm="%s", nonce="%s", uri="%s", qop=auth, nc=%08x, cnonce="%s", response="%x", algorithm=SHA-256`,
		a.user, a.realm, a.nonce, a.uri, a.count, a.cnonce, response)
}

// ask returns the request with a header.
func (a answer) ask(header string) quest.Ask {
	return quest.Ask{Method: a.method, Target: a.uri, Header: header}
}

// right returns the request with the right response.
func (a answer) right(b *box.Box) quest.Ask {
	return a.ask(a.header(a.response(b)))
}

// accepts checks that an answer succeeds, after one check and one look at the users.
func accepts(t *testing.T, o talk.Office, q *quest.Quest, a quest.Ask, now uint64, nonce string, count uint32) quest.Result {
	t.Helper()
	checks, reads := q.Checks(), o.Users.Reads()
	r, e := q.Answer(a, now)
	if e != api.OK || r.Nonce != nonce || r.Count != count || r.User.Gen == 0 {
		t.Errorf("%q at %d: %v %d", a.Header, now, r, e)
	}
	if q.Checks() != checks+1 || o.Users.Reads() != reads+1 {
		t.Errorf("%q: %d checks and %d reads", a.Header, q.Checks()-checks, o.Users.Reads()-reads)
	}
	return r
}

// refuses checks that an answer fails, and leaves the nonces as they are. Its response is checked, and the user is looked up, only as the last argument says.
func refuses(t *testing.T, o talk.Office, q *quest.Quest, a quest.Ask, now uint64, want api.Errno, checked bool) {
	t.Helper()
	more := uint64(0)
	if checked {
		more = 1
	}
	checks, reads, entries := q.Checks(), o.Users.Reads(), slices.Collect(o.Nonces.Entries())
	r, e := q.Answer(a, now)
	if e != want || !reflect.DeepEqual(r, quest.Result{}) {
		t.Errorf("%.200q at %d: %v %d, not %d", a, now, r, e, want)
	}
	if q.Checks() != checks+more || o.Users.Reads() != reads+more {
		t.Errorf("%.200q: %d checks and %d reads", a, q.Checks()-checks, o.Users.Reads()-reads)
	}
	if !slices.Equal(slices.Collect(o.Nonces.Entries()), entries) {
		t.Errorf("%.200q has changed the nonces", a)
	}
}

func TestP21_1New(t *testing.T) {
	o := officeOf(t, false, 4)
	for _, tenant := range []string{"t", "none", "a-b_c9", strings.Repeat("t", 32)} {
		for _, rounds := range []int{1, 2, 63, 64} {
			o.Iter = rounds
			if q := questOf(t, o, tenant); q.Checks() != 0 {
				t.Error(tenant, q.Checks())
			}
		}
	}
	if o.Nonces.Serial() != 0 || o.Users.Reads() != 0 {
		t.Error("New has issued or read")
	}
}

// What is missing comes first, then the rounds, then the tenant.
func TestP21_1NewErrors(t *testing.T) {
	full := officeOf(t, false, 4)
	for _, tenant := range []string{"t", "", "T", "a b", "a.b", "ü", "\xff", "a\x00", strings.Repeat("t", 33)} {
		for _, rounds := range []int{0, -1, 65, math.MaxInt, math.MinInt, 1, 64} {
			full.Iter = rounds
			for missing := range 8 {
				o := full
				if missing&1 != 0 {
					o.Box = nil
				}
				if missing&2 != 0 {
					o.Users = nil
				}
				if missing&4 != 0 {
					o.Nonces = nil
				}
				want := api.OK
				switch {
				case missing != 0:
					want = api.ErrNone
				case rounds < 1 || rounds > 64:
					want = api.ErrArg
				case tenant != "t":
					want = api.ErrSign
				}
				if q, e := quest.New(o, tenant); e != want || (q == nil) != (want != api.OK) {
					t.Errorf("%q, %d rounds, missing %b: %d, not %d", tenant, rounds, missing, e, want)
				}
			}
		}
	}
}

// The example of the chapter.
func TestP21_1Example(t *testing.T) {
	header, e := questOf(t, officeOf(t, false, 4), "t").Challenge("d", false, 0)
	if header != `Digest realm="t", nonce="d.0000000000000001", algorithm=SHA-256, qop="auth"` || e != api.OK {
		t.Error(header, e)
	}
}

func TestP21_1Challenge(t *testing.T) {
	o := officeOf(t, false, 4)
	serial := 0
	for _, tenant := range []string{"t", "none", strings.Repeat("-", 32)} {
		q := questOf(t, o, tenant)
		for i, draw := range []string{"d", strings.Repeat("x", 40), `"`, `\`, `a"\"b`, "!#~.", "a.0000000000000001"} {
			for _, stale := range []bool{false, true} {
				serial++
				now := uint64(1000*serial + i)
				o.Nonces.Sweep(now) // so that every draw is a new one
				issued := fmt.Sprintf("%s.%016x", draw, serial)
				want := fmt.Sprintf(`Digest realm="%s", nonce="%s", algorithm=SHA-256, `, tenant, strings.NewReplacer(`\`, `\\`, `"`, `\"`).Replace(issued))
				if stale {
					want += "stale=true, "
				}
				want += `qop="auth"`
				if header, e := q.Challenge(draw, stale, now); header != want || e != api.OK {
					t.Errorf("%q %d, not %q", header, e, want)
				}
				all := slices.Collect(o.Nonces.Entries())
				if got := all[len(all)-1]; got != (nonce.Entry{Nonce: issued, At: now}) || o.Nonces.Serial() != uint64(serial) {
					t.Error(got, o.Nonces.Serial())
				}
			}
		}
		if q.Checks() != 0 || o.Users.Reads() != 0 {
			t.Error("Challenge has checked or read")
		}
	}
}

func TestP21_1ChallengeErrors(t *testing.T) {
	o := officeOf(t, false, 4)
	q := questOf(t, o, "t")
	challenged(t, q, "there", 50)
	for _, stale := range []bool{false, true} {
		fails := func(draw string, now uint64, want api.Errno) {
			t.Helper()
			if header, e := q.Challenge(draw, stale, now); header != "" || e != want || o.Nonces.Serial() != 1 {
				t.Errorf("%q at %d: %q %d, not %d", draw, now, header, e, want)
			}
		}
		for _, draw := range []string{"", "a,b", " ", "ü", "\xff", "a\x00", strings.Repeat("d", 41), strings.Repeat("d", 1000)} {
			fails(draw, 50, api.ErrForm)
			fails(draw, 49, api.ErrForm)
		}
		fails("d", 49, api.ErrLate)
		fails("there", 0, api.ErrLate)
		fails("there", 50, api.ErrExists)
		fails("there", 51, api.ErrExists)
	}
	challenged(t, q, "d", 50)
}

func TestP21_1Nil(t *testing.T) {
	var q *quest.Quest
	for _, draw := range []string{"d", "", "a,b"} {
		if header, e := q.Challenge(draw, true, 5); header != "" || e != api.ErrNone {
			t.Error(header, e)
		}
	}
	for _, a := range []quest.Ask{{}, annAnswer("n", 1).right(box.New(false)), {Header: strings.Repeat("x", 5000)}} {
		if r, e := q.Answer(a, 5); !reflect.DeepEqual(r, quest.Result{}) || e != api.ErrNone {
			t.Error(r, e)
		}
	}
	if q.Checks() != 0 {
		t.Error(q.Checks())
	}
}

func TestP21_2Answer(t *testing.T) {
	for _, symbolic := range []bool{false, true} {
		o := officeOf(t, symbolic, 4)
		add(t, o, "t", "a:b=c d", "p,:=€")
		add(t, o, "t", strings.Repeat("n", 32), "p")
		q := questOf(t, o, "t")
		n := challenged(t, q, "d", 5)
		for i, a := range []answer{
			{user: "ann", name: "ann", pass: "pencil", uri: "a.b:80", cnonce: "c", method: "CONNECT"},
			{user: "a\u00adnn\ufeff", name: "ann", pass: "pencil", uri: "/", cnonce: "c:c", method: "GET"},
			{user: "a:b=c d", name: "a:b=c d", pass: "p,:=€", uri: "/a,b=?c", cnonce: strings.Repeat("c", 64), method: ""},
			{user: "a:b=c\u00a0d", name: "a:b=c d", pass: "p,:=€", uri: "", cnonce: "c", method: "a:b\x00"},
			{user: strings.Repeat("n\u200b", 32), name: strings.Repeat("n", 32), pass: "p", uri: "\xff", cnonce: "\xff", method: "\xff"},
		} {
			a.realm, a.nonce, a.count = "t", n, uint32(0x100*i+1)
			want, _ := o.Users.Find("t", a.name)
			if r := accepts(t, o, q, a.right(o.Box), 5, n, a.count); !reflect.DeepEqual(r.User, want) {
				t.Errorf("%v, not %v", r.User, want)
			}
		}
		if q.Checks() != 5 {
			t.Error(q.Checks())
		}
	}
}

// What doesn't matter in a header: the case of some words, the order, spaces, and other parameters.
func TestP21_2Headers(t *testing.T) {
	o := officeOf(t, false, 4)
	q := questOf(t, o, "t")
	n := challenged(t, q, "d", 5)
	for i, change := range []func(string) string{
		func(s string) string { return strings.Replace(s, "Digest", "dIGEST  ", 1) },
		func(s string) string { return strings.Replace(s, "SHA-256", "sha-256", 1) },
		func(s string) string { return strings.Replace(s, "username", "UserName", 1) },
		func(s string) string { return strings.ReplaceAll(s, ", ", "\t,") },
		func(s string) string { return s + `, opaque="o", stale=nonsense, x="y"` },
		func(s string) string { return strings.Replace(s, `"ann"`, `"\a\n\n"`, 1) },
		func(s string) string {
			return "Digest algorithm=SHA-256, " + strings.TrimSuffix(s, ", algorithm=SHA-256")[7:]
		},
	} {
		a := annAnswer(n, uint32(i+1))
		accepts(t, o, q, a.ask(change(a.header(a.response(o.Box)))), 5, n, a.count)
	}
}

// badHeaders are headers that are none, made of a right one, and layer 8's errors for them.
func badHeaders(good string) map[string]api.Errno {
	return map[string]api.Errno{
		"":         api.ErrForm,
		"Digest":   api.ErrForm,
		"Digest ":  api.ErrForm,
		good + ",": api.ErrForm,
		strings.Replace(good, "Digest", "Basic", 1):           api.ErrForm,
		strings.Replace(good, "qop=auth", "qop=auth-int", 1):  api.ErrForm,
		strings.Replace(good, "qop=auth", `qop="auth"`, 1):    api.ErrForm,
		strings.Replace(good, "SHA-256", "MD5", 1):            api.ErrForm,
		strings.Replace(good, "nc=0", "nc=", 1):               api.ErrForm,
		strings.Replace(good, "nc=0", "nc=g", 1):              api.ErrForm,
		strings.Replace(good, `response="`, `response="0`, 1): api.ErrForm,
		strings.Replace(good, `cnonce="c"`, `cnonce=""`, 1):   api.ErrForm,
		strings.Replace(good, `realm="t"`, `realm=t`, 1):      api.ErrForm,
		strings.Replace(good, `username="ann", `, "", 1):      api.ErrNone,
		strings.Replace(good, `realm="t", `, "", 1):           api.ErrNone,
		strings.Replace(good, `uri="a.b:80", `, "", 1):        api.ErrNone,
		strings.Replace(good, ", algorithm=SHA-256", "", 1):   api.ErrNone,
		good + `, realm="t"`:                                  api.ErrExists,
		good + `, USERNAME="eve"`:                             api.ErrExists,
		good + ", x=" + strings.Repeat("x", 5000):             api.ErrLong,
		strings.Repeat("\xff", 4097):                          api.ErrLong,
		good + ", a=1, b=1, c=1, d=1, e=1, f=1, g=1, h=1":     api.ErrLong,
		good + ", a=1, b=1, c=1, d=1, e=1, f=1, g=1, a=1":     api.ErrLong,
	}
}

// A header that can't be read has no effect: no user is looked up, and nothing is checked.
func TestP21_2HeaderErrors(t *testing.T) {
	for _, symbolic := range []bool{false, true} {
		o := officeOf(t, symbolic, 4)
		q := questOf(t, o, "t")
		a := annAnswer(challenged(t, q, "d", 5), 1)
		right := a.right(o.Box)
		for header, want := range badHeaders(right.Header) {
			for _, target := range []string{a.uri, "other", ""} {
				for _, now := range []uint64{0, 5, 100} {
					terms := o.Box.Len()
					refuses(t, o, q, quest.Ask{Method: a.method, Target: target, Header: header}, now, want, false)
					if o.Box.Len() != terms {
						t.Errorf("%q has added terms", header)
					}
				}
			}
		}
		accepts(t, o, q, right, 5, a.nonce, 1)
	}
}

// An answer for another realm or another target is refused before the user is looked up, whatever else is wrong with it.
func TestP21_2Form(t *testing.T) {
	for _, symbolic := range []bool{false, true} {
		o := officeOf(t, symbolic, 4)
		q := questOf(t, o, "t")
		n := challenged(t, q, "d", 5)
		for _, user := range []string{"ann", "bob", "eve"} {
			for _, nonce := range []string{n, "none"} {
				for _, pass := range []string{"pencil", "wrong"} {
					for _, now := range []uint64{0, 5, 100} {
						a := annAnswer(nonce, 1)
						a.user, a.name, a.pass = user, user, pass
						for _, realm := range []string{"u", "T", "", "tt", "t "} {
							b := a
							b.realm = realm
							refuses(t, o, q, b.right(o.Box), now, api.ErrForm, false)
						}
						for _, target := range []string{"", "a.b:81", "A.b:80", "a.b:80 ", "a.b:8"} {
							b := a.right(o.Box)
							b.Target = target
							refuses(t, o, q, b, now, api.ErrForm, false)
						}
					}
				}
			}
		}
		accepts(t, o, q, annAnswer(n, 1).right(o.Box), 5, n, 1)
	}
}

// Whatever part of a right answer is another one, the response is wrong. A wrong response doesn't use the nonce, and isn't told what is wrong with that.
func TestP21_2Proof(t *testing.T) {
	for _, symbolic := range []bool{false, true} {
		o := officeOf(t, symbolic, 4)
		q := questOf(t, o, "t")
		n := challenged(t, q, "d", 5)
		good := annAnswer(n, 1)
		for i, change := range []func(a *answer){
			func(a *answer) { a.name = "Ann" }, func(a *answer) { a.realm = "u" }, func(a *answer) { a.pass = "Pencil" }, func(a *answer) { a.pass = "" },
			func(a *answer) { a.nonce = "other" }, func(a *answer) { a.uri = "a.b:81" }, func(a *answer) { a.cnonce = "d" }, func(a *answer) { a.method = "GET" },
			func(a *answer) { a.count = 2 }, func(a *answer) { a.count = 0x10000001 },
		} {
			a := good
			change(&a)
			for _, now := range []uint64{0, 5, 5 + window, 6 + window} {
				refuses(t, o, q, good.ask(good.header(a.response(o.Box))), now, api.ErrProof, true)
			}
			if i > 3 { // another header with the response that is right for this one
				refuses(t, o, q, a.ask(a.header(good.response(o.Box))), 5, api.ErrProof, true)
			}
		}
		response := good.response(o.Box)
		for i := range 256 {
			bad := slices.Clone(response)
			bad[i/8] ^= 1 << (i % 8)
			refuses(t, o, q, good.ask(good.header(bad)), 5, api.ErrProof, true)
		}
		for _, bad := range [][]byte{make([]byte, 32), secretOf(t, o, "t", "ann", "pencil").HA1, box.Handle(1), box.Handle(0)} {
			refuses(t, o, q, good.ask(good.header(bad)), 5, api.ErrProof, true)
		}
		accepts(t, o, q, good.right(o.Box), 5, n, 1)
	}
}

// strangers are names that no user of tenant t has who is not revoked.
var strangers = []string{
	"eve", "Ann", "ann ", "bob", "b\u00adob", "e,v=e", "", "\u00ad", "ann\u0081", "\ufffd", "\xff", strings.Repeat("n", 33), strings.Repeat("ü", 1000),
}

// Who is no user is refused like one whose response is wrong, also if the response is right for the dummy secret, which everybody can compute.
func TestP21_2Dummy(t *testing.T) {
	for _, symbolic := range []bool{false, true} {
		o := officeOf(t, symbolic, 4)
		q := questOf(t, o, "t")
		n := challenged(t, q, "d", 5)
		sum := func(text string) []byte { return o.Box.Hash([]byte(text)) }
		for _, user := range strangers {
			for _, pass := range []string{"pencil", "secret", ""} {
				a := annAnswer(n, 1)
				a.user, a.name, a.pass = user, user, pass
				refuses(t, o, q, a.right(o.Box), 5, api.ErrProof, true)
				for _, now := range []uint64{0, 5, 100} {
					forged := a.answering(sum, hash("ha1 t "+user), sum("CONNECT:a.b:80"))
					refuses(t, o, q, a.ask(a.header(forged)), now, api.ErrProof, true)
				}
			}
		}
	}
}

// The response of a stranger is computed with the dummy's HA1, of his name as it was received. A symbolic box shows it.
func TestP21_2DummySymbolic(t *testing.T) {
	for _, user := range strangers {
		o := officeOf(t, true, 4)
		q := questOf(t, o, "t")
		a := annAnswer(challenged(t, q, "d", 5), 1)
		a.user = user
		n := o.Box.Len()
		refuses(t, o, q, a.ask(a.header(make([]byte, 32))), 5, api.ErrProof, true)
		ha1 := hex.EncodeToString(hash("ha1 t " + user))
		want := []string{"CONNECT:a.b:80", ha1 + ":" + a.nonce + ":00000001:c:auth:" + hex.EncodeToString(box.Handle(n+1))}
		if o.Box.Len() != n+len(want) {
			t.Fatal(user, o.Box.Len()-n)
		}
		for i, text := range want {
			if term, ok := o.Box.Term(n + i + 1); !ok || term.Kind != box.Hash || string(term.Text) != text {
				t.Errorf("%q: %q, not %q", user, term.Text, text)
			}
		}
	}
}

// In a symbolic box HA2 comes first, then the response, also for a user.
func TestP21_2Symbolic(t *testing.T) {
	o := officeOf(t, true, 4) // ann's HA1 is term 5
	q := questOf(t, o, "t")
	a := annAnswer(challenged(t, q, "d", 5), 1)
	n := o.Box.Len()
	refuses(t, o, q, a.ask(a.header(make([]byte, 32))), 5, api.ErrProof, true)
	one, _ := o.Box.Term(n + 1)
	two, _ := o.Box.Term(n + 2)
	want := fmt.Sprintf("%x:%s:00000001:c:auth:%x", box.Handle(5), a.nonce, box.Handle(n+1))
	if o.Box.Len() != n+2 || string(one.Text) != "CONNECT:a.b:80" || string(two.Text) != want {
		t.Errorf("%q %q %d", one.Text, two.Text, o.Box.Len()-n)
	}
	accepts(t, o, q, a.ask(a.header(box.Handle(n+2))), 5, a.nonce, 1)
	if o.Box.Len() != n+2 {
		t.Error(o.Box.Len() - n)
	}
}

// Only after the response was found right, the nonce is used, and its errors are told.
func TestP21_2Nonce(t *testing.T) {
	for _, symbolic := range []bool{false, true} {
		o := officeOf(t, symbolic, 2)
		q := questOf(t, o, "t")
		try := func(nonce string, count uint32, now uint64, want api.Errno) {
			t.Helper()
			a := annAnswer(nonce, count)
			if want == api.OK {
				accepts(t, o, q, a.right(o.Box), now, nonce, count)
			} else {
				refuses(t, o, q, a.right(o.Box), now, want, true)
			}
			a.pass = "wrong"
			refuses(t, o, q, a.right(o.Box), now, api.ErrProof, true)
		}
		one := challenged(t, q, "one", 50)
		try("none", 1, 50, api.ErrNone)
		try("one.0000000000000002", 1, 50, api.ErrNone)
		try("one", 0, 50, api.ErrNone)
		try(one, 0, 50, api.ErrArg)
		try(one, 0, 49, api.ErrLate)
		try(one, 1, 49, api.ErrLate)
		try(one, 1, 51+window, api.ErrLate)
		try(one, 5, 50, api.OK)
		try(one, 5, 50, api.ErrSeen)
		try(one, 4, 50, api.ErrSeen)
		try(one, 6, 50+window, api.OK)
		try(one, math.MaxUint32, 50, api.OK)
		try(one, math.MaxUint32, 50, api.ErrSeen)
		try(one, 0, 50, api.ErrArg)
		two := challenged(t, q, "two", 50)
		if e := o.Nonces.Spend(two, 50); e != api.OK {
			t.Fatal(e)
		}
		try(two, 1, 50, api.ErrSeen)
		challenged(t, q, "three", 50) // for which one goes
		try(one, 9, 50, api.ErrNone)
		try(two, 1, 50, api.ErrLate)
		// Any nonce of the store serves, whoever asked for it.
		four, e := o.Nonces.Issue("four", 60)
		if e != api.OK {
			t.Fatal(e)
		}
		try(four, 1, 60, api.OK)
		five := challenged(t, questOf(t, o, "u"), "five", 60)
		try(five, 1, 60, api.OK)
	}
}

// The user is the one of now, not that of the challenge.
func TestP21_2Changes(t *testing.T) {
	o := officeOf(t, false, 4)
	q := questOf(t, o, "t")
	n := challenged(t, q, "d", 5)
	count := uint32(0)
	try := func(pass string, want api.Errno) {
		t.Helper()
		count++
		a := annAnswer(n, count)
		a.pass = pass
		if want != api.OK {
			refuses(t, o, q, a.right(o.Box), 5, want, true)
			return
		}
		c, _ := o.Users.Find("t", "ann")
		if r := accepts(t, o, q, a.right(o.Box), 5, n, count); !reflect.DeepEqual(r.User, c) {
			t.Errorf("%v, not %v", r.User, c)
		}
	}
	try("pencil", api.OK)
	o.Users.Grant("t", "ann", "new")
	try("pencil", api.OK)
	o.Users.Change("t", "ann", secretOf(t, o, "t", "ann", "new"))
	try("pencil", api.ErrProof)
	try("new", api.OK)
	o.Users.Revoke("t", "ann", true)
	try("new", api.ErrProof)
	o.Users.Revoke("t", "ann", false)
	try("new", api.OK)
	o.Users.Drop("t", "ann")
	try("new", api.ErrProof)
	add(t, o, "t", "ann", "pencil")
	try("pencil", api.OK)
	o.Users.DropTenant("t")
	try("pencil", api.ErrProof)
}

// Each quest counts its own checks, and serves its own tenant.
func TestP21_2Tenants(t *testing.T) {
	o := officeOf(t, false, 4)
	q, r, none := questOf(t, o, "t"), questOf(t, o, "u"), questOf(t, o, "none")
	n := challenged(t, q, "d", 5)
	a := annAnswer(n, 1)
	refuses(t, o, r, a.right(o.Box), 5, api.ErrForm, false)
	accepts(t, o, q, a.right(o.Box), 5, n, 1)
	a.count, a.realm = 2, "u"
	refuses(t, o, q, a.right(o.Box), 5, api.ErrForm, false)
	if got := accepts(t, o, r, a.right(o.Box), 5, n, 2); got.User.Tenant != "u" {
		t.Error(got)
	}
	a.realm = "none"
	refuses(t, o, none, a.right(o.Box), 5, api.ErrProof, true)
	refuses(t, o, none, a.right(o.Box), 5, api.ErrProof, true)
	if q.Checks() != 1 || r.Checks() != 1 || none.Checks() != 2 {
		t.Error(q.Checks(), r.Checks(), none.Checks())
	}
}

// wipe overwrites a slice and its spare capacity.
func wipe[E any](p []E) {
	p = p[:cap(p)]
	for i := range p {
		var zero E
		p[i] = zero
	}
}

// Whoever overwrites a credential that he was given changes nothing.
func TestP21_2Memory(t *testing.T) {
	o := officeOf(t, false, 4)
	want, _ := o.Users.Find("t", "ann")
	q := questOf(t, o, "t")
	n := challenged(t, q, "d", 5)
	one := accepts(t, o, q, annAnswer(n, 1).right(o.Box), 5, n, 1).User
	two := accepts(t, o, q, annAnswer(n, 2).right(o.Box), 5, n, 2).User
	wipe(one.Roles)
	for _, p := range [][]byte{one.Secret.Salt, one.Secret.Stored, one.Secret.Server, one.Secret.HA1} {
		wipe(p)
	}
	kept, _ := o.Users.Find("t", "ann")
	if !reflect.DeepEqual(two, want) || !reflect.DeepEqual(kept, want) {
		t.Error(two, kept)
	}
	all := [][]byte{two.Secret.Salt, two.Secret.Stored, two.Secret.Server, two.Secret.HA1}
	for i, p := range all {
		wipe(p)
		for _, q := range all[i+1:] {
			if bytes.Count(q, []byte{0}) == len(q) {
				t.Error("two slices of a credential share memory")
			}
		}
	}
}

// The quest has an office of its own, so that what becomes of the caller's is nothing to it.
func TestP21_2Office(t *testing.T) {
	o := officeOf(t, false, 4)
	mine := o
	q := questOf(t, mine, "t")
	mine.Box, mine.Users, mine.Nonces, mine.Iter = nil, nil, nil, 0
	n := challenged(t, q, "d", 5)
	accepts(t, o, q, annAnswer(n, 1).right(o.Box), 5, n, 1)
}

func TestP21_2Stale(t *testing.T) {
	for e := api.Errno(-3); e < 40; e++ {
		want := e == api.ErrNone || e == api.ErrLate
		if quest.Stale(e) != want {
			t.Error(e)
		}
	}
	if quest.Stale(math.MaxInt) || quest.Stale(math.MinInt) {
		t.Error("an error that there is not is stale")
	}
}

// Under random answers, also in several quests, each nonce is accepted with counts that increase.
func TestP21_3Counts(t *testing.T) {
	r := rand.New(rand.NewSource(1))
	for i := range 40 {
		o := officeOf(t, i%2 == 1, 3)
		quests := []*quest.Quest{questOf(t, o, "t"), questOf(t, o, "u")}
		realms := []string{"t", "u"}
		last := map[string]uint32{}
		nonces := []string{"none"}
		accepted := 0
		for now := uint64(0); now < 100; now++ {
			k := r.Intn(2)
			if r.Intn(4) == 0 {
				nonces = append(nonces, challenged(t, quests[k], fmt.Sprint("d", now), now))
			}
			a := annAnswer(nonces[max(0, len(nonces)-1-r.Intn(4))], uint32(r.Intn(8)))
			a.realm = realms[k]
			if r.Intn(5) == 0 {
				a.pass = "wrong"
			}
			got, e := quests[k].Answer(a.right(o.Box), now)
			if e != api.OK {
				continue
			}
			accepted++
			if a.count <= last[a.nonce] || a.pass != "pencil" || got.Nonce != a.nonce || got.Count != a.count {
				t.Fatalf("%v after %d: %v", a, last[a.nonce], got)
			}
			last[a.nonce] = a.count
			// The same again, and a smaller one, are refused by every quest.
			for _, count := range []uint32{a.count, a.count - 1} {
				for j, q := range quests {
					b := a
					b.count, b.realm = count, realms[j]
					if _, e := q.Answer(b.right(o.Box), now); e != api.ErrSeen && (count != 0 || e != api.ErrArg) {
						t.Fatal(b, e)
					}
				}
			}
		}
		if accepted == 0 {
			t.Error("nothing was accepted")
		}
	}
}

// A nonce serves either a talk or a quest.
func TestP21_3Talk(t *testing.T) {
	for _, used := range []bool{false, true} {
		o := officeOf(t, false, 4)
		q := questOf(t, o, "t")
		x, e := talk.New(o, "t")
		if e != api.OK {
			t.Fatal(e)
		}
		ask, e := x.First("n,,n=ann,r=abc", "d", 5)
		if e != api.OK {
			t.Fatal(e)
		}
		if used {
			accepts(t, o, q, annAnswer(x.Nonce(), 1).right(o.Box), 5, x.Nonce(), 1)
		}
		without := "c=biws,r=abc" + x.Nonce()
		p, _, e := proof.Client(o.Box, "pencil", []byte("salt"), 1, "n=ann,r=abc,"+ask+","+without)
		if e != api.OK {
			t.Fatal(e)
		}
		want := api.OK
		if used {
			want = api.ErrSeen
		}
		if _, e := x.Final(without+",p="+base64.StdEncoding.EncodeToString(p), 5); e != want {
			t.Error(used, e)
		}
		refuses(t, o, q, annAnswer(x.Nonce(), 1).right(o.Box), 5, api.ErrSeen, true)
	}
}
