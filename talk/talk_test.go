package talk_test

import (
	"bytes"
	"crypto/hmac"
	"crypto/pbkdf2"
	"crypto/sha256"
	"encoding/base64"
	"fmt"
	"math"
	"math/rand"
	"reflect"
	"regexp"
	"slices"
	"strconv"
	"strings"
	"testing"

	"ostiary/api"
	"ostiary/box"
	"ostiary/cred"
	"ostiary/nonce"
	"ostiary/proof"
	"ostiary/talk"
)

// The replies to failures.
const (
	other   = "e=other-error"
	invalid = "e=invalid-proof"
)

// The client first of most tests, and the secret behind its user.
const (
	annHead   = "n,,"
	annBare   = "n=ann,r=abc"
	annPass   = "pencil"
	annSalt   = "\x01\x02"
	annRounds = 3
)

// window is how many ticks a nonce lasts in these tests.
const window = 10

func encode(p []byte) string { return base64.StdEncoding.EncodeToString(p) }

// hash and mac compute with Go's own library.
func hash(text string) []byte {
	sum := sha256.Sum256([]byte(text))
	return sum[:]
}

func mac(key []byte, text string) []byte {
	h := hmac.New(sha256.New, key)
	h.Write([]byte(text))
	return h.Sum(nil)
}

// xor returns the exclusive or of two tags.
func xor(x, y []byte) []byte {
	out := slices.Clone(x)
	for i := range out {
		out[i] ^= y[i]
	}
	return out
}

// officeOf returns an office with room for that many nonces. Its users are ann, who has two roles, and bob, who is revoked, of tenant t, and another ann of tenant u.
func officeOf(t *testing.T, symbolic bool, room int) talk.Office {
	t.Helper()
	n, e := nonce.New(nonce.Config{Room: room, Window: window})
	if e != api.OK {
		t.Fatal(e)
	}
	o := talk.Office{Box: box.New(symbolic), Users: cred.New(), Nonces: n, Iter: 7}
	add(t, o, "t", "ann", annPass, annSalt, annRounds)
	add(t, o, "t", "bob", "secret", "bob's", 5)
	add(t, o, "u", "ann", "other", "another", 2)
	for _, e := range []api.Errno{o.Users.Revoke("t", "bob", true), o.Users.Grant("t", "ann", "dev"), o.Users.Grant("t", "ann", "ops")} {
		if e != api.OK {
			t.Fatal(e)
		}
	}
	return o
}

// secretOf makes the secret of a password.
func secretOf(t *testing.T, o talk.Office, tenant, user, pass, salt string, rounds int) cred.Secret {
	t.Helper()
	x, e := cred.Make(o.Box, tenant, user, pass, []byte(salt), rounds)
	if e != api.OK {
		t.Fatal(user, e)
	}
	return x
}

// add adds a user, and the tenant if need be.
func add(t *testing.T, o talk.Office, tenant, user, pass, salt string, rounds int) {
	t.Helper()
	o.Users.AddTenant(tenant)
	if e := o.Users.Add(tenant, user, secretOf(t, o, tenant, user, pass, salt, rounds)); e != api.OK {
		t.Fatal(user, e)
	}
}

// begun returns a new talk.
func begun(t *testing.T, o talk.Office, tenant string) *talk.Talk {
	t.Helper()
	x, e := talk.New(o, tenant)
	if x == nil || e != api.OK {
		t.Fatal(tenant, e)
	}
	return x
}

// asked gives a talk a client first and returns the challenge.
func asked(t *testing.T, x *talk.Talk, text, draw string, now uint64) string {
	t.Helper()
	ask, e := x.First(text, draw, now)
	if e != api.OK {
		t.Fatalf("%q: %q %d", text, ask, e)
	}
	return ask
}

// signs computes the client's proof for a message with that challenge: with Go's own library, or by the handles of a symbolic box.
func signs(t *testing.T, b *box.Box, pass, ask, message string) []byte {
	t.Helper()
	parts := strings.Split(ask, ",")
	salt, err := base64.StdEncoding.DecodeString(parts[1][2:])
	rounds, bad := strconv.Atoi(parts[2][2:])
	if err != nil || bad != nil {
		t.Fatal(ask, err, bad)
	}
	if b.Symbolic() {
		p, _, e := proof.Client(b, pass, salt, rounds, message)
		if e != api.OK {
			t.Fatal(pass, e)
		}
		return p
	}
	salted, err := pbkdf2.Key(sha256.New, pass, salt, rounds, 32)
	if err != nil {
		t.Fatal(err)
	}
	key := mac(salted, "Client Key")
	return xor(key, mac(hash(string(key)), message))
}

// without returns a client final that answers a challenge, but for its proof. The extensions have the comma ahead of each.
func without(head, ask, ext string) string {
	both, _, _ := strings.Cut(ask, ",")
	return "c=" + encode([]byte(head)) + "," + both + ext
}

// finalOf returns the client final of a client with that password.
func finalOf(t *testing.T, b *box.Box, pass, head, bare, ask, ext string) string {
	t.Helper()
	text := without(head, ask, ext)
	return text + ",p=" + encode(signs(t, b, pass, ask, bare+","+ask+","+text))
}

// annFinal returns the client final of ann.
func annFinal(t *testing.T, o talk.Office, ask string) string {
	t.Helper()
	return finalOf(t, o.Box, annPass, annHead, annBare, ask, "")
}

// shows checks what a talk tells about itself, but for whose it is.
func shows(t *testing.T, x *talk.Talk, state int, issued string, checked bool) {
	t.Helper()
	if x.State() != state || x.Nonce() != issued || x.Checked() != checked {
		t.Errorf("state %d, nonce %q, %t, not %d, %q, %t", x.State(), x.Nonce(), x.Checked(), state, issued, checked)
	}
	if c, authz, ok := x.Who(); ok != (state == talk.Well) || !ok && (authz != "" || !reflect.DeepEqual(c, cred.Cred{})) {
		t.Errorf("state %d: %v %q %t", state, c, authz, ok)
	}
}

// refuses checks that First fails and issues nothing, and asks for no user.
func refuses(t *testing.T, o talk.Office, x *talk.Talk, text, draw string, now uint64, want api.Errno) {
	t.Helper()
	serial, reads, terms, issued, checked := o.Nonces.Serial(), o.Users.Reads(), o.Box.Len(), x.Nonce(), x.Checked()
	reply, e := x.First(text, draw, now)
	if reply != other || e != want {
		t.Errorf("First of %.80q with %q at %d: %q %d, not %d", text, draw, now, reply, e, want)
	}
	if o.Nonces.Serial() != serial || o.Users.Reads() != reads || o.Box.Len() != terms {
		t.Errorf("First of %.80q has issued, read or computed", text)
	}
	shows(t, x, talk.Failed, issued, checked)
}

// rejects checks that Final fails with a message that isn't even looked at, so that no nonce is spent.
func rejects(t *testing.T, o talk.Office, x *talk.Talk, text string, now uint64, want api.Errno) {
	t.Helper()
	entries, reads, terms, issued, checked := slices.Collect(o.Nonces.Entries()), o.Users.Reads(), o.Box.Len(), x.Nonce(), x.Checked()
	reply, e := x.Final(text, now)
	if reply != other || e != want {
		t.Errorf("Final of %.80q: %q %d, not %d", text, reply, e, want)
	}
	if !slices.Equal(slices.Collect(o.Nonces.Entries()), entries) || o.Users.Reads() != reads || o.Box.Len() != terms {
		t.Errorf("Final of %.80q has spent, read or computed", text)
	}
	shows(t, x, talk.Failed, issued, checked)
}

// fails checks that Final fails after the proof was checked.
func fails(t *testing.T, x *talk.Talk, text string, now uint64, want api.Errno) {
	t.Helper()
	issued := x.Nonce()
	if reply, e := x.Final(text, now); reply != invalid || e != want {
		t.Errorf("Final of %.80q: %q %d, not %d", text, reply, e, want)
	}
	shows(t, x, talk.Failed, issued, true)
}

// succeeds checks that Final succeeds.
func succeeds(t *testing.T, x *talk.Talk, text string, now uint64) string {
	t.Helper()
	issued := x.Nonce()
	reply, e := x.Final(text, now)
	if !strings.HasPrefix(reply, "v=") || e != api.OK {
		t.Fatalf("Final of %.80q: %q %d", text, reply, e)
	}
	shows(t, x, talk.Well, issued, true)
	return reply
}

// entry returns what the store keeps of a nonce.
func entry(t *testing.T, o talk.Office, text string) nonce.Entry {
	t.Helper()
	for e := range o.Nonces.Entries() {
		if e.Nonce == text {
			return e
		}
	}
	t.Fatal(text, "is not in the store")
	return nonce.Entry{}
}

func TestP20_1New(t *testing.T) {
	o := officeOf(t, false, 4)
	for _, tenant := range []string{"t", "none", "", "T,\x00\xff", strings.Repeat("t", 5000)} {
		for _, rounds := range []int{1, 2, 63, 64} {
			o.Iter = rounds
			shows(t, begun(t, o, tenant), talk.Begin, "", false)
		}
	}
	if o.Nonces.Serial() != 0 || o.Users.Reads() != 0 {
		t.Error("New has issued or read")
	}
}

// What is missing takes precedence over the rounds.
func TestP20_1NewErrors(t *testing.T) {
	full := officeOf(t, false, 4)
	for _, rounds := range []int{0, -1, 65, 66, math.MaxInt, math.MinInt, 1 << 32, 1, 64} {
		full.Iter = rounds
		for missing := range 8 {
			o := full
			if missing&1 != 0 {
				o.Box = nil
			}
			if missing&2 != 0 {
				o.Users = nil
			}
			if missing&4 != 0 {
				o.Nonces = nil
			}
			want := api.OK
			switch {
			case missing != 0:
				want = api.ErrNone
			case rounds < 1 || rounds > 64:
				want = api.ErrArg
			}
			if x, e := talk.New(o, "t"); e != want || (x == nil) != (want != api.OK) {
				t.Errorf("%d rounds, missing %b: %d, not %d", rounds, missing, e, want)
			}
		}
	}
	if x, e := talk.New(talk.Office{}, ""); x != nil || e != api.ErrNone {
		t.Error(e)
	}
}

// The example of the chapter.
func TestP20_1Example(t *testing.T) {
	o := officeOf(t, false, 4)
	x := begun(t, o, "t")
	if ask := asked(t, x, "n,,n=ann,r=abc", "d", 0); ask != "r=abcd.0000000000000001,s=AQI=,i=3" {
		t.Error(ask)
	}
	shows(t, x, talk.Asked, "d.0000000000000001", false)
	if reply, e := x.Final(finalOf(t, o.Box, "wrong", annHead, annBare, "r=abcd.0000000000000001,s=AQI=,i=3", ""), 1); reply != "e=invalid-proof" || e != api.ErrProof {
		t.Error(reply, e)
	}
}

// Salt and rounds are those of the user, however the message is written.
func TestP20_1Challenge(t *testing.T) {
	o := officeOf(t, false, 4)
	add(t, o, "t", "a,b=c d", "p", strings.Repeat("s", 32), 64)
	add(t, o, "t", strings.Repeat("n", 32), "p", "\xff", 1)
	ann := ",s=AQI=,i=3"
	long := ",s=" + encode([]byte(strings.Repeat("s", 32))) + ",i=64"
	for i, c := range []struct{ tenant, text, nonce, rest string }{
		{"t", "n,,n=ann,r=abc", "abc", ann},
		{"t", "y,,n=ann,r=a", "a", ann},
		{"t", "n,a=dev,n=ann,r=!~", "!~", ann},
		{"t", "y,a=a=2Cb=3D,n=ann,r=abc,x=1,y=ü", "abc", ann},
		{"t", "n,,n=a\u00adnn\ufeff,r=abc", "abc", ann},
		{"t", "n,,n=a=2Cb=3Dc d,r=abc", "abc", long},
		{"t", "n,,n=a=2Cb=3Dc\u00a0d,r=abc", "abc", long},
		{"t", "n,,n=" + strings.Repeat("n", 32) + ",r=abc", "abc", ",s=/w==,i=1"},
		{"t", "n,,n=" + strings.Repeat("n\u200b", 32) + ",r=abc", "abc", ",s=/w==,i=1"},
		{"u", "n,,n=ann,r=abc", "abc", ",s=" + encode([]byte("another")) + ",i=2"},
	} {
		draw := fmt.Sprint("d", i)
		x := begun(t, o, c.tenant)
		issued := fmt.Sprintf("%s.%016x", draw, i+1)
		if ask := asked(t, x, c.text, draw, uint64(i)); ask != "r="+c.nonce+issued+c.rest {
			t.Errorf("%q: %q", c.text, ask)
		}
		shows(t, x, talk.Asked, issued, false)
		if got := entry(t, o, issued); got != (nonce.Entry{Nonce: issued, At: uint64(i)}) {
			t.Error(got)
		}
	}
}

// strangers are names, as they are in messages and as they were received, that no user has who is not revoked.
var strangers = [][2]string{
	{"eve", "eve"},
	{"Ann", "Ann"},
	{"ann ", "ann "},
	{"bob", "bob"},             // revoked
	{"b\u00adob", "b\u00adob"}, // another form of a name is another dummy
	{"e=2Cv=3De", "e,v=e"},
	{"\u00ad", "\u00ad"}, // empty when prepared
	{"\x01", "\x01"},
	{"ann\x7f", "ann\x7f"},
	{"\ufffd", "\ufffd"},
	{strings.Repeat("n", 33), strings.Repeat("n", 33)},
	{strings.Repeat("ü", 1000), strings.Repeat("ü", 1000)},
}

// Who is no user is asked as if he were one, with the salt of a dummy secret.
func TestP20_1Dummy(t *testing.T) {
	for _, symbolic := range []bool{false, true} {
		for _, rounds := range []int{1, 2, 64} {
			o := officeOf(t, symbolic, 4)
			o.Iter = rounds
			terms := o.Box.Len()
			for i, s := range strangers {
				for _, tenant := range []string{"t", "u", "none", "", "T!"} {
					draw := fmt.Sprint(tenant, i, ".")
					x := begun(t, o, tenant)
					salt := hash("salt " + tenant + " " + s[1])[:16]
					ask := asked(t, x, "n,,n="+s[0]+",r=abc", draw, 100*uint64(i))
					if want := "r=abc" + x.Nonce() + ",s=" + encode(salt) + ",i=" + strconv.Itoa(rounds); ask != want {
						t.Errorf("%q of %q: %q, not %q", s, tenant, ask, want)
					}
				}
			}
			if o.Box.Len() != terms {
				t.Error("a dummy secret has left terms in the box")
			}
		}
	}
}

// Every First that issues a nonce asks the store once, whoever the user is, and no Final does.
func TestP20_1Reads(t *testing.T) {
	o := officeOf(t, false, 4)
	names := []string{"ann", "a\u00adnn"}
	for _, s := range strangers {
		names = append(names, s[0])
	}
	for i, user := range names {
		for _, tenant := range []string{"t", "none"} {
			before := o.Users.Reads()
			x := begun(t, o, tenant)
			bare := "n=" + user + ",r=abc"
			ask := asked(t, x, "n,,"+bare, fmt.Sprint(tenant, i), uint64(100*i))
			if o.Users.Reads() != before+1 {
				t.Error(user, o.Users.Reads()-before)
			}
			x.Final(finalOf(t, o.Box, annPass, annHead, bare, ask, ""), uint64(100*i))
			x.Who()
			if o.Users.Reads() != before+1 {
				t.Error(user, o.Users.Reads()-before)
			}
		}
	}
}

// badFirsts are client firsts that are none, and layer 7's errors for them.
var badFirsts = []struct {
	text string
	want api.Errno
}{
	{"", api.ErrForm}, {"n", api.ErrForm}, {"n,,", api.ErrForm}, {"n,,n=ann", api.ErrForm}, {"n,,n=ann,r=", api.ErrForm}, {"n,,n=,r=a", api.ErrForm},
	{"N,,n=ann,r=a", api.ErrForm}, {"n,n=ann,r=a", api.ErrForm}, {"n,,n=a=2cb,r=a", api.ErrForm}, {"n,,n=ann,r=a,", api.ErrForm}, {"n,,n=ann,r=a b", api.ErrForm},
	{"n,,n=\xff,r=a", api.ErrForm}, {"n,,n=ann,r=" + strings.Repeat("r", 65), api.ErrForm}, {"r=abcd,s=AQI=,i=3", api.ErrForm}, {"p=,,n=ann,r=a", api.ErrForm},
	{"p=x,,n=ann,r=a", api.ErrDenied}, {"n,,m=1,n=ann,r=a", api.ErrDenied}, {"n,,n=ann,r=a,m=1", api.ErrDenied}, {"p=x,,n=eve,r=a", api.ErrDenied},
	{"n,,n=ann,r=a,x=" + strings.Repeat("x", 5000), api.ErrLong}, {strings.Repeat("\xff", 4097), api.ErrLong}, {"n,,n=ann,r=a,x=" + strings.Repeat("x", 4097-15), api.ErrLong},
}

func TestP20_1TextErrors(t *testing.T) {
	for _, symbolic := range []bool{false, true} {
		o := officeOf(t, symbolic, 4)
		o.Nonces.Issue("there", 5)
		for _, c := range badFirsts {
			// The draw comes later, whatever is wrong with it.
			for _, draw := range []string{"d", "", "a,b", "there", strings.Repeat("d", 41), strings.Repeat("d", 1000)} {
				refuses(t, o, begun(t, o, "t"), c.text, draw, 5, c.want)
			}
			refuses(t, o, begun(t, o, "t"), c.text, "d", 4, c.want)
		}
	}
	o := officeOf(t, false, 4)
	asked(t, begun(t, o, "t"), "n,,n=ann,r=a,x="+strings.Repeat("x", 4096-15), "d", 0)
}

// The nonce of the challenge has at most MaxNonce bytes, of which 17 are always the store's.
func TestP20_1Long(t *testing.T) {
	o := officeOf(t, false, 4)
	now := uint64(0)
	for mine := 1; mine <= 64; mine++ {
		for theirs := range 70 {
			now += 2 * window
			o.Nonces.Sweep(now) // so that every draw is a new one
			text, draw := "n,,n=ann,r="+strings.Repeat("r", mine), strings.Repeat("d", theirs)
			switch {
			case mine+theirs+17 > 64:
				refuses(t, o, begun(t, o, "t"), text, draw, now, api.ErrLong)
			case theirs == 0 || theirs > 40:
				refuses(t, o, begun(t, o, "t"), text, draw, now, api.ErrForm)
			default:
				asked(t, begun(t, o, "t"), text, draw, now)
			}
		}
	}
	// A draw that is invalid counts as well, and so does one that is late or there already.
	o.Nonces.Issue("there", now)
	long := "n,,n=ann,r=" + strings.Repeat("r", 43)
	for _, draw := range []string{"a,b.c", "\xff\xff\xff\xff\xff", "there", strings.Repeat("d", 5), "     "} {
		refuses(t, o, begun(t, o, "t"), long, draw, now, api.ErrLong)
		refuses(t, o, begun(t, o, "t"), long, draw, now-1, api.ErrLong)
	}
	for _, draw := range []string{"a,bc", "\xff", "", "    "} {
		refuses(t, o, begun(t, o, "t"), long, draw, now, api.ErrForm)
	}
}

func TestP20_1StoreErrors(t *testing.T) {
	for _, text := range []string{"n,,n=ann,r=abc", "n,,n=eve,r=abc", "n,,n=\x01,r=abc"} {
		o := officeOf(t, false, 4)
		asked(t, begun(t, o, "t"), text, "there", 50)
		for _, draw := range []string{"", "a,b", " ", "ü", "\xff", "a\x00", strings.Repeat("d", 41)} {
			refuses(t, o, begun(t, o, "t"), text, draw, 50, api.ErrForm)
			refuses(t, o, begun(t, o, "t"), text, draw, 49, api.ErrForm)
		}
		refuses(t, o, begun(t, o, "t"), text, "d", 49, api.ErrLate)
		refuses(t, o, begun(t, o, "t"), text, "there", 0, api.ErrLate)
		refuses(t, o, begun(t, o, "t"), text, "there", 50, api.ErrExists)
		refuses(t, o, begun(t, o, "t"), text, "there", 51, api.ErrExists)
		asked(t, begun(t, o, "t"), text, "d", 50)
	}
}

// inState returns a talk of ann in any of the states.
func inState(t *testing.T, o talk.Office, state int, draw string, now uint64) *talk.Talk {
	t.Helper()
	x := begun(t, o, "t")
	switch state {
	case talk.Begin:
		return x
	case talk.Failed:
		x.First("", draw, now)
		return x
	}
	ask := asked(t, x, annHead+annBare, draw, now)
	if state == talk.Well {
		succeeds(t, x, annFinal(t, o, ask), now)
	}
	return x
}

// Only a talk that waits for a client first takes one; any other fails by it, also one that has succeeded.
func TestP20_1State(t *testing.T) {
	texts := []string{"n,,n=ann,r=abc", "n,,n=eve,r=abc", "", "p=x,,n=ann,r=a", strings.Repeat("x", 5000), "n,,n=ann,r=" + strings.Repeat("r", 64)}
	for _, state := range []int{talk.Asked, talk.Well, talk.Failed} {
		for i, text := range texts {
			for _, draw := range []string{"d", "", "a,b", strings.Repeat("d", 50)} {
				o := officeOf(t, i%2 == 1, 4)
				x := inState(t, o, state, "first", 5)
				refuses(t, o, x, text, draw, 5, api.ErrState)
				refuses(t, o, x, text, draw, 4, api.ErrState)
				rejects(t, o, x, text, 5, api.ErrState)
			}
		}
	}
	o := officeOf(t, false, 4)
	x := begun(t, o, "t")
	ask := asked(t, x, annHead+annBare, "d", 5)
	refuses(t, o, x, annHead+annBare, "e", 5, api.ErrState)
	rejects(t, o, x, annFinal(t, o, ask), 5, api.ErrState) // which would have been right
}

// The verdict is that of RFC 5802, computed with Go's own library.
func TestP20_2Verdict(t *testing.T) {
	o := officeOf(t, false, 4)
	salted, err := pbkdf2.Key(sha256.New, annPass, []byte(annSalt), annRounds, 32)
	if err != nil {
		t.Fatal(err)
	}
	server := mac(salted, "Server Key")
	for i, c := range [][4]string{
		{"n,,", "n=ann,r=abc", "", ""},
		{"y,,", "n=ann,r=abc", "", ""},
		{"n,a=dev,", "n=ann,r=abc", "", "dev"},
		{"y,a=a=2C=3Db,", "n=ann,r=~", ",x=1,Z=ü", "a,=b"},
		{"n,,", "n=a\u00adnn,r=abc,x=1,a=b,p=q", ",x=1,r=2,c=3", ""},
	} {
		x := begun(t, o, "t")
		ask := asked(t, x, c[0]+c[1], fmt.Sprint("d", i), uint64(i))
		text := without(c[0], ask, c[2])
		message := c[1] + "," + ask + "," + text
		reply := succeeds(t, x, text+",p="+encode(signs(t, o.Box, annPass, ask, message)), uint64(i))
		if want := "v=" + encode(mac(server, message)); reply != want {
			t.Errorf("%q: %q, not %q", c, reply, want)
		}
		if user, authz, ok := x.Who(); !ok || user.User != "ann" || user.Tenant != "t" || authz != c[3] {
			t.Errorf("%q: %v %q %t", c, user, authz, ok)
		}
	}
}

// badFinals returns client finals that are none, and layer 7's errors for them.
func badFinals(ask string) []struct {
	text string
	want api.Errno
} {
	both, _, _ := strings.Cut(ask, ",")
	p := ",p=" + encode(make([]byte, 32))
	return []struct {
		text string
		want api.Errno
	}{
		{"", api.ErrForm}, {"c=biws", api.ErrForm}, {"c=biws," + both, api.ErrForm}, {"c=biws," + both + ",p=", api.ErrForm},
		{"c=biws," + both + ",p=" + encode(make([]byte, 31)), api.ErrForm}, {"c=biws," + both + ",p=" + encode(make([]byte, 33)), api.ErrForm},
		{"c=," + both + p, api.ErrForm}, {"c=biws" + p, api.ErrForm}, {"c=" + encode([]byte("n,")) + "," + both + p, api.ErrForm},
		{"c=" + encode([]byte("n,,n=ann")) + "," + both + p, api.ErrForm}, {"n,,n=ann,r=abc", api.ErrForm}, {"c=biws," + both + p + ",x=1", api.ErrForm},
		{"c=" + encode([]byte("p=x,,")) + "," + both + p, api.ErrDenied}, {"c=biws," + both + ",m=1" + p, api.ErrDenied},
		{"c=biws," + both + ",x=" + strings.Repeat("x", 5000) + p, api.ErrLong}, {strings.Repeat("\x00", 4097), api.ErrLong},
	}
}

// A message that can't be read spends nothing, and no proof is checked.
func TestP20_2TextErrors(t *testing.T) {
	for _, symbolic := range []bool{false, true} {
		for _, user := range []string{"ann", "eve"} {
			for _, now := range []uint64{0, 5, 5 + window, 6 + window} {
				for _, c := range badFinals("r=abcd.0000000000000001,s=AQI=,i=3") {
					o := officeOf(t, symbolic, 4)
					x := begun(t, o, "t")
					asked(t, x, "n,,n="+user+",r=abc", "d", 5)
					rejects(t, o, x, c.text, now, c.want)
				}
			}
		}
	}
}

// Only a talk that waits for a client final takes one.
func TestP20_2State(t *testing.T) {
	for _, state := range []int{talk.Begin, talk.Well, talk.Failed} {
		for i, text := range []string{"", "c=biws,r=abcd.0000000000000001,p=" + encode(make([]byte, 32)), "c=biws,r=a,m=1,p=" + encode(make([]byte, 32)), strings.Repeat("x", 5000)} {
			for _, now := range []uint64{0, 5, 100} {
				o := officeOf(t, i%2 == 1, 4)
				x := inState(t, o, state, "d", 5)
				rejects(t, o, x, text, now, api.ErrState)
				rejects(t, o, x, text, now, api.ErrState)
				refuses(t, o, x, "n,,n=ann,r=abc", "e", 5, api.ErrState)
			}
		}
	}
	// After a wrong proof the right one comes too late.
	o := officeOf(t, false, 4)
	x := begun(t, o, "t")
	ask := asked(t, x, annHead+annBare, "d", 5)
	fails(t, x, finalOf(t, o.Box, "x", annHead, annBare, ask, ""), 5, api.ErrProof)
	rejects(t, o, x, annFinal(t, o, ask), 5, api.ErrState)
	// And a right one is no right one again.
	x = begun(t, o, "t")
	right := annFinal(t, o, asked(t, x, annHead+annBare, "e", 5))
	succeeds(t, x, right, 5)
	rejects(t, o, x, right, 5, api.ErrState)
}

// forged is a stranger for whom a proof can be forged that is right: the text that is hashed to the dummy's Stored has as many bytes as a client key.
const forged = "a name of 23 characters"

// faults are all the faults that a client final can have beside each other.
type faults struct {
	head, nonce, proof, dummy, gone bool
	store                           int // 0: none, then one for each error and way of the nonce store
}

// want returns the first error in the order of the chapter.
func (f faults) want() api.Errno {
	spending := []api.Errno{api.OK, api.ErrNone, api.ErrLate, api.ErrLate, api.ErrLate, api.ErrSeen, api.ErrSeen}
	switch {
	case f.head || f.nonce:
		return api.ErrForm
	case f.store != 0:
		return spending[f.store]
	case f.proof || f.dummy:
		return api.ErrProof
	case f.gone:
		return api.ErrGone
	}
	return api.OK
}

// spoil makes the nonce of a talk one that can't be spent, in one of the ways, and returns when to try. In the store, which has room for two, it is the second.
func spoil(o talk.Office, text string, way int) uint64 {
	switch way {
	case 1: // removed
		o.Nonces.Issue("one", 50)
		o.Nonces.Issue("two", 50)
	case 2: // too old
		return 50 + window + 1
	case 3: // not issued yet
		return 49
	case 4: // ruled out by the mark, but still there
		o.Nonces.Issue("one", 50)
	case 5:
		o.Nonces.Spend(text, 50)
	case 6:
		o.Nonces.Use(text, 1, 50)
	}
	return 50 + window
}

// tryFaults runs a whole exchange with these faults.
func tryFaults(t *testing.T, f faults) {
	t.Helper()
	o := officeOf(t, false, 2)
	o.Nonces.Issue("old", 50)
	user, bare := "ann", annBare
	if f.dummy {
		user, bare = forged, "n="+forged+",r=abc"
	}
	x := begun(t, o, "t")
	ask := asked(t, x, annHead+bare, "d", 50)
	now := spoil(o, x.Nonce(), f.store)
	if f.gone {
		o.Users.Revoke("t", "ann", true)
	}
	head, said := annHead, ask
	if f.head {
		head = "y,,"
	}
	if f.nonce {
		said = strings.Replace(ask, "d.0", "D.0", 1)
	}
	text := without(head, said, "")
	sent := proofFor(t, o, user, ask, bare+","+ask+","+text)
	if f.proof {
		sent[31] ^= 1
	}
	reply, e := x.Final(text+",p="+encode(sent), now)
	want, state := f.want(), talk.Failed
	if want == api.OK {
		state = talk.Well
	}
	if e != want || want == api.OK && !strings.HasPrefix(reply, "v=") || want != api.OK && reply != invalid {
		t.Errorf("%+v: %q %d, not %d", f, reply, e, want)
	}
	shows(t, x, state, "d.0000000000000002", true)
	if f.store == 0 && !entry(t, o, x.Nonce()).Spent {
		t.Errorf("%+v: the nonce is not spent", f)
	}
}

// proofFor returns a proof that the check itself finds right: with ann's password, or forged for a stranger.
func proofFor(t *testing.T, o talk.Office, user, ask, message string) []byte {
	t.Helper()
	if user == "ann" {
		return signs(t, o.Box, annPass, ask, message)
	}
	key := "stored t " + user
	if len(key) != 32 {
		t.Fatal(len(key))
	}
	return xor([]byte(key), mac(hash(key), message))
}

// Of several faults the first one in the order of the chapter counts. The nonce is spent and the proof is checked in any case.
func TestP20_2Order(t *testing.T) {
	sides := []bool{false, true}
	for _, head := range sides {
		for _, nonce := range sides {
			for _, proof := range sides {
				for _, dummy := range sides {
					for _, gone := range sides {
						for store := range 7 {
							tryFaults(t, faults{head, nonce, proof, dummy, gone, store})
						}
					}
				}
			}
		}
	}
}

// A proof that a symbolic box can't even turn is wrong, and spends the nonce like any other.
func TestP20_2ProofForm(t *testing.T) {
	for _, user := range []string{"ann", "eve"} {
		o := officeOf(t, true, 4)
		for i, n := range []int{0, o.Box.Len() + 1, 1000, -1} {
			x := begun(t, o, "t")
			ask := asked(t, x, "n,,n="+user+",r=abc", fmt.Sprint("d", i), 5)
			fails(t, x, without(annHead, ask, "")+",p="+encode(box.Handle(n)), 5, api.ErrProof)
			if !entry(t, o, x.Nonce()).Spent {
				t.Error(n, "the nonce is not spent")
			}
		}
	}
}

// sameTerms checks the terms of a box from number first on: of each the kind, the key and the text.
func sameTerms(t *testing.T, b *box.Box, first int, want ...box.Term) {
	t.Helper()
	if b.Len() != first-1+len(want) {
		t.Fatalf("%d terms, not %d", b.Len(), first-1+len(want))
	}
	for i, w := range want {
		got, ok := b.Term(first + i)
		if !ok || got.Kind != w.Kind || !bytes.Equal(got.Key, w.Key) || !bytes.Equal(got.Text, w.Text) || !slices.Equal(got.List, w.List) {
			t.Errorf("term %d is %v, not %v", first+i, got, w)
		}
	}
}

// What a symbolic box is used for: nothing in First; in Final to check the proof, whatever else is wrong, and then, on success alone, for the verdict.
func TestP20_2Symbolic(t *testing.T) {
	o := officeOf(t, true, 4) // ann's secret is in the terms 1 to 5: 2 is the client key, 3 is Stored, 4 is Server
	x := begun(t, o, "t")
	n := o.Box.Len()
	ask := asked(t, x, annHead+annBare, "d", 5)
	sameTerms(t, o.Box, n+1)
	text := without(annHead, ask, "")
	message := annBare + "," + ask + "," + text
	macOf := func(key []byte, text string) box.Term {
		return box.Term{Kind: box.Mac, Key: key, Text: []byte(text)}
	}
	turned := func(list ...int) box.Term { return box.Term{Kind: box.Turn, List: list} }
	hashed := func(n int) box.Term { return box.Term{Kind: box.Hash, Text: box.Handle(n)} }
	guess := o.Box.Hash([]byte("a guess"))
	guessed := n + 1
	fails(t, x, text+",p="+encode(guess), 5, api.ErrProof)
	sameTerms(t, o.Box, n+2, macOf(box.Handle(3), message), turned(guessed, n+2), hashed(n+3))

	n = o.Box.Len()
	x = begun(t, o, "t")
	ask = asked(t, x, annHead+annBare, "e", 5)
	text = without("y,,", ask, "")
	fails(t, x, text+",p="+encode(guess), 100, api.ErrForm)
	sameTerms(t, o.Box, n+1, macOf(box.Handle(3), annBare+","+ask+","+text), turned(guessed, n+1), hashed(n+2))

	n = o.Box.Len()
	x = begun(t, o, "t")
	ask = asked(t, x, annHead+annBare, "f", 5)
	text = without(annHead, ask, "")
	message = annBare + "," + ask + "," + text
	sent, e := o.Box.Turn(box.Handle(2), o.Box.Mac(box.Handle(3), []byte(message))) // n + 1 and n + 2
	if e != api.OK {
		t.Fatal(e)
	}
	reply := succeeds(t, x, text+",p="+encode(sent), 5)
	sameTerms(t, o.Box, n+3, macOf(box.Handle(4), message))
	if reply != "v="+encode(box.Handle(n+3)) {
		t.Error(reply)
	}
}

// Every change of a credential between First and Final is noticed, but only by whom has proved the password as it was.
func TestP20_2Gone(t *testing.T) {
	for i, change := range []func(o talk.Office) api.Errno{
		func(o talk.Office) api.Errno { return o.Users.Revoke("t", "ann", true) },
		func(o talk.Office) api.Errno { return o.Users.Revoke("t", "ann", false) },
		func(o talk.Office) api.Errno { return o.Users.Grant("t", "ann", "new") },
		func(o talk.Office) api.Errno { return o.Users.Ungrant("t", "ann", "dev") },
		func(o talk.Office) api.Errno {
			return o.Users.Change("t", "ann", secretOf(t, o, "t", "ann", annPass, annSalt, annRounds))
		},
		func(o talk.Office) api.Errno {
			return o.Users.Change("t", "ann", secretOf(t, o, "t", "ann", "new", "new", 1))
		},
		func(o talk.Office) api.Errno { return o.Users.Drop("t", "ann") },
		func(o talk.Office) api.Errno { return o.Users.DropTenant("t") },
		func(o talk.Office) api.Errno {
			o.Users.Drop("t", "ann")
			return o.Users.Add("t", "ann", secretOf(t, o, "t", "ann", annPass, annSalt, annRounds))
		},
	} {
		for _, symbolic := range []bool{false, true} {
			for pass, want := range map[string]api.Errno{annPass: api.ErrGone, "new": api.ErrProof} {
				o := officeOf(t, symbolic, 4)
				x := begun(t, o, "t")
				ask := asked(t, x, annHead+annBare, "d", 5)
				if e := change(o); e != api.OK {
					t.Fatal(i, e)
				}
				fails(t, x, finalOf(t, o.Box, pass, annHead, annBare, ask, ""), 5, want)
				if !entry(t, o, x.Nonce()).Spent {
					t.Error(i, "the nonce is not spent")
				}
			}
		}
	}
}

// Changes of other credentials don't matter.
func TestP20_2OtherChanges(t *testing.T) {
	o := officeOf(t, false, 4)
	x := begun(t, o, "t")
	ask := asked(t, x, annHead+annBare, "d", 5)
	for _, e := range []api.Errno{
		o.Users.Revoke("u", "ann", true), o.Users.Drop("t", "bob"), o.Users.DropTenant("u"),
		o.Users.Add("t", "new", secretOf(t, o, "t", "new", "new", "new", 1)), o.Users.AddTenant("new"),
	} {
		if e != api.OK {
			t.Fatal(e)
		}
	}
	succeeds(t, x, annFinal(t, o, ask), 5)
}

// Who is no user in First is none in Final, whatever his proof is, and whatever becomes of the user in between.
func TestP20_2Dummy(t *testing.T) {
	for _, symbolic := range []bool{false, true} {
		o := officeOf(t, symbolic, 4)
		for i, s := range strangers {
			for j, pass := range []string{annPass, "secret", "p"} {
				now := uint64(1000*i + 100*j)
				x := begun(t, o, "t")
				bare := "n=" + s[0] + ",r=abc"
				ask := asked(t, x, annHead+bare, "d", now)
				fails(t, x, finalOf(t, o.Box, pass, annHead, bare, ask, ""), now, api.ErrProof)
				if !entry(t, o, x.Nonce()).Spent {
					t.Error(s, "the nonce is not spent")
				}
				o.Nonces.Sweep(now + window + 1)
			}
		}
	}
}

// Who becomes a user only after First has no proof yet.
func TestP20_2DummyLater(t *testing.T) {
	o := officeOf(t, false, 4)
	restored, added := begun(t, o, "t"), begun(t, o, "t")
	bob := asked(t, restored, "n,,n=bob,r=abc", "d", 5)
	eve := asked(t, added, "n,,n=eve,r=abc", "e", 5)
	if e := o.Users.Revoke("t", "bob", false); e != api.OK {
		t.Fatal(e)
	}
	add(t, o, "t", "eve", "p", "s", 7)
	fails(t, restored, finalOf(t, o.Box, "secret", "n,,", "n=bob,r=abc", bob, ""), 5, api.ErrProof)
	fails(t, added, finalOf(t, o.Box, "p", "n,,", "n=eve,r=abc", eve, ""), 5, api.ErrProof)
}

// With the dummy secret of some names, a proof that is right can be forged. It is refused all the same, also if there is such a user by then.
func TestP20_2Forged(t *testing.T) {
	bare := "n=" + forged + ",r=abc"
	for _, later := range []bool{false, true} {
		o := officeOf(t, false, 4)
		x := begun(t, o, "t")
		ask := asked(t, x, "n,,"+bare, "d", 5)
		text := without("n,,", ask, "")
		message := bare + "," + ask + "," + text
		sent := proofFor(t, o, forged, ask, message)
		if e := proof.Check(o.Box, proof.Dummy(o.Box, "t", forged, 1), message, sent); e != api.OK {
			t.Fatal(e)
		}
		if later {
			add(t, o, "t", forged, "p", "s", 7)
		}
		fails(t, x, text+",p="+encode(sent), 5, api.ErrProof)
	}
}

// A proof is for one tenant.
func TestP20_2Tenant(t *testing.T) {
	o := officeOf(t, false, 4)
	for i, c := range []struct{ tenant, pass string }{{"t", "pencil"}, {"u", "other"}} {
		for _, pass := range []string{"pencil", "other"} {
			x := begun(t, o, c.tenant)
			text := finalOf(t, o.Box, pass, annHead, annBare, asked(t, x, annHead+annBare, fmt.Sprint(i, pass), 5), "")
			if pass != c.pass {
				fails(t, x, text, 5, api.ErrProof)
				continue
			}
			succeeds(t, x, text, 5)
			if user, _, _ := x.Who(); user.Tenant != c.tenant {
				t.Error(user)
			}
		}
	}
}

// The credential is that of First, whatever becomes of the user afterwards, until the talk fails.
func TestP20_3Who(t *testing.T) {
	for _, symbolic := range []bool{false, true} {
		o := officeOf(t, symbolic, 4)
		want, _ := o.Users.Find("t", "ann")
		x := begun(t, o, "t")
		ask := asked(t, x, "y,a=ro=2Cle,"+"n=an\u00adn,r=abc", "d", 5)
		shows(t, x, talk.Asked, "d.0000000000000001", false)
		succeeds(t, x, finalOf(t, o.Box, annPass, "y,a=ro=2Cle,", "n=an\u00adn,r=abc", ask, ""), 5)
		is := func() {
			t.Helper()
			if c, authz, ok := x.Who(); !ok || authz != "ro,le" || !reflect.DeepEqual(c, want) {
				t.Fatalf("%v %q %t, not %v", c, authz, ok, want)
			}
		}
		is()
		is()
		o.Users.Grant("t", "ann", "new")
		is()
		o.Users.DropTenant("t")
		is()
		if x.State() != talk.Well {
			t.Error(x.State())
		}
		rejects(t, o, x, "", 5, api.ErrState)
		shows(t, x, talk.Failed, "d.0000000000000001", true)
	}
}

// wipe overwrites a slice and its spare capacity.
func wipe[E any](p []E) {
	p = p[:cap(p)]
	for i := range p {
		var zero E
		p[i] = zero
	}
}

// Whoever overwrites a credential that he was given changes nothing.
func TestP20_3WhoMemory(t *testing.T) {
	o := officeOf(t, false, 4)
	want, _ := o.Users.Find("t", "ann")
	x := begun(t, o, "t")
	ask := asked(t, x, annHead+annBare, "d", 5)
	succeeds(t, x, annFinal(t, o, ask), 5)
	one, _, _ := x.Who()
	two, _, _ := x.Who()
	wipe(one.Roles)
	for _, p := range [][]byte{one.Secret.Salt, one.Secret.Stored, one.Secret.Server, one.Secret.HA1} {
		wipe(p)
	}
	three, _, _ := x.Who()
	kept, _ := o.Users.Find("t", "ann")
	if !reflect.DeepEqual(two, want) || !reflect.DeepEqual(three, want) || !reflect.DeepEqual(kept, want) {
		t.Error(two, three, kept)
	}
	all := [][]byte{two.Secret.Salt, two.Secret.Stored, two.Secret.Server, two.Secret.HA1}
	for i, p := range all {
		wipe(p)
		for _, q := range all[i+1:] {
			if bytes.Count(q, []byte{0}) == len(q) {
				t.Error("two slices of a credential share memory")
			}
		}
	}
}

// The talk has an office of its own, so that what becomes of the caller's is nothing to it.
func TestP20_3Office(t *testing.T) {
	o := officeOf(t, false, 4)
	mine := o
	x := begun(t, mine, "t")
	mine.Box, mine.Users, mine.Nonces, mine.Iter = nil, nil, nil, 0
	succeeds(t, x, annFinal(t, o, asked(t, x, annHead+annBare, "d", 5)), 5)
	if x.Box != o.Box || x.Users != o.Users || x.Nonces != o.Nonces || x.Iter != o.Iter {
		t.Error("the fields of the office are not promoted")
	}
}

func TestP20_3States(t *testing.T) {
	for state, want := range []int{talk.Begin, talk.Asked, talk.Well, talk.Failed} {
		if state != want {
			t.Error(state, want)
		}
		x := inState(t, officeOf(t, false, 4), state, "d", 5)
		issued := state == talk.Asked || state == talk.Well
		if x.State() != state || x.Checked() != (state == talk.Well) || (x.Nonce() != "") != issued {
			t.Error(state, x.State(), x.Nonce(), x.Checked())
		}
	}
}

// What a failure leaves: a talk that never issued a nonce has none.
func TestP20_3Failed(t *testing.T) {
	o := officeOf(t, false, 4)
	for _, text := range []string{"", annHead + annBare} {
		x := begun(t, o, "t")
		refuses(t, o, x, text, "a,b", 5, api.ErrForm)
		shows(t, x, talk.Failed, "", false)
		rejects(t, o, x, "", 5, api.ErrState)
		shows(t, x, talk.Failed, "", false)
	}
}

func TestP20_3Nil(t *testing.T) {
	var x *talk.Talk
	for _, text := range []string{"", annHead + annBare, strings.Repeat("x", 5000)} {
		if reply, e := x.First(text, "d", 5); reply != "" || e != api.ErrNone {
			t.Error(reply, e)
		}
		if reply, e := x.Final(text, 5); reply != "" || e != api.ErrNone {
			t.Error(reply, e)
		}
		shows(t, x, talk.Failed, "", false)
	}
}

// Whoever has the password, in any form, succeeds, in any order among others, and within the window.
func TestP20_4Admitted(t *testing.T) {
	r := rand.New(rand.NewSource(1))
	text := func(pieces []string, most int) string {
		var out strings.Builder
		for range 1 + r.Intn(most) {
			out.WriteString(pieces[r.Intn(len(pieces))])
		}
		return out.String()
	}
	escape := strings.NewReplacer(",", "=2C", "=", "=3D")
	for i := range 200 {
		o := officeOf(t, i%2 == 1, 16)
		var talks []*talk.Talk
		var finals []string
		for j := range 1 + r.Intn(5) {
			user := text([]string{"a", "b", " ", ",", "=", "ü", "😀"}, 7) + strconv.Itoa(j)
			pass := text([]string{"p", "q", " ", ",", "=", "ä", "€"}, 15)
			add(t, o, "t", user, pass, text([]string{"s", "\x00", "\xff"}, 32), 1+r.Intn(4))
			form := strings.NewReplacer(" ", "\u00a0", "a", "\u00ada\ufeff").Replace(user)
			head := []string{"n,,", "y,,", "n,a=dev,", "y,a==2C=3D,"}[r.Intn(4)]
			bare := "n=" + escape.Replace(form) + ",r=" + text([]string{"!", "r", "~"}, 40)
			x := begun(t, o, "t")
			ask := asked(t, x, head+bare, "draw"+strconv.Itoa(j), uint64(100+j))
			talks = append(talks, x)
			finals = append(finals, finalOf(t, o.Box, pass, head, bare, ask, []string{"", ",x=1"}[r.Intn(2)]))
		}
		for _, j := range r.Perm(len(talks)) {
			succeeds(t, talks[j], finals[j], uint64(100+j+r.Intn(window+1)))
		}
		if o.Box.Full() {
			t.Error("the box is full")
		}
	}
}

// No nonce serves twice: not in the same talk, not in another one, and not if somebody else spends it.
func TestP20_4Replay(t *testing.T) {
	for _, symbolic := range []bool{false, true} {
		o := officeOf(t, symbolic, 16)
		x := begun(t, o, "t")
		ask := asked(t, x, annHead+annBare, "d", 5)
		right := annFinal(t, o, ask)
		succeeds(t, x, right, 5)
		rejects(t, o, x, right, 5, api.ErrState)
		again := begun(t, o, "t")
		asked(t, again, annHead+annBare, "e", 5)
		fails(t, again, right, 5, api.ErrForm)
		if e := o.Nonces.Spend(x.Nonce(), 5); e != api.ErrSeen {
			t.Error(e)
		}
		if e := o.Nonces.Spend(again.Nonce(), 5); e != api.ErrSeen {
			t.Error(e)
		}
		for i, spend := range []func(nonce string) api.Errno{
			func(nonce string) api.Errno { return o.Nonces.Spend(nonce, 5) },
			func(nonce string) api.Errno { return o.Nonces.Use(nonce, 1, 5) },
		} {
			y := begun(t, o, "t")
			ask := asked(t, y, annHead+annBare, fmt.Sprint("f", i), 5)
			if e := spend(y.Nonce()); e != api.OK {
				t.Fatal(e)
			}
			fails(t, y, annFinal(t, o, ask), 5, api.ErrSeen)
		}
	}
}

// A wrong proof uses the nonce up, so that nobody has a second guess.
func TestP20_4OneGuess(t *testing.T) {
	o := officeOf(t, false, 8)
	for i, pass := range []string{"Pencil", "pencil ", "penci", "pencilx", "secret"} {
		x := begun(t, o, "t")
		ask := asked(t, x, annHead+annBare, fmt.Sprint("d", i), 5)
		fails(t, x, finalOf(t, o.Box, pass, annHead, annBare, ask, ""), 5, api.ErrProof)
		rejects(t, o, x, annFinal(t, o, ask), 5, api.ErrState)
		if e := o.Nonces.Spend(x.Nonce(), 5); e != api.ErrSeen {
			t.Error(pass, e)
		}
	}
}

// changed runs an exchange of ann in which these changes happen to the client first, the challenge, and the client final, and reports whether it came as far as Final.
func changed(t *testing.T, o talk.Office, now uint64, first, ask, final func(string) string) bool {
	t.Helper()
	x := begun(t, o, "t")
	sent := first("n,a=dev,n=ann,r=abc")
	reply, e := x.First(sent, "d", now)
	if e != api.OK {
		return false
	}
	got := ask(reply)
	if !challenge.MatchString(got) {
		return false
	}
	text := final(finalOf(t, o.Box, annPass, "n,a=dev,", annBare, got, ""))
	if verdict, e := x.Final(text, now); e == api.OK {
		t.Errorf("%q %q %q: %q", sent, got, text, verdict)
	}
	return true
}

// challenge is what a client can answer.
var challenge = regexp.MustCompile(`^r=[!-+\--~]+,s=([A-Za-z0-9+/]{3}=),i=[1-9][0-9]?$`)

// A message that is changed on its way, in any direction, lets nobody in.
func TestP20_4Changed(t *testing.T) {
	o := officeOf(t, false, 4)
	same := func(s string) string { return s }
	now, tried := uint64(0), 0
	for at := range 120 {
		for _, b := range []byte("an=,dAB1293.\x00\xff") {
			possible := false
			put := func(s string) string {
				possible = at < len(s) && s[at] != b
				if !possible {
					return ""
				}
				return s[:at] + string([]byte{b}) + s[at+1:]
			}
			for _, in := range [][3]func(string) string{{put, same, same}, {same, put, same}, {same, same, put}} {
				now += 100
				o.Nonces.Sweep(now)
				if changed(t, o, now, in[0], in[1], in[2]) && possible {
					tried++
				}
			}
		}
	}
	if tried < 1000 {
		t.Error("only", tried, "exchanges came to their end")
	}
}
