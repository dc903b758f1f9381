package guest_test

import (
	"crypto/hmac"
	"crypto/pbkdf2"
	"crypto/sha256"
	"encoding/base64"
	"fmt"
	"slices"
	"strings"
	"testing"

	"ostiary/api"
	"ostiary/box"
	"ostiary/guest"
)

// The kinds of frames, by layer 25's tables.
const (
	hello = 1
	first = 2
	final = 3
	ask   = 4
	show  = 5
	open  = 6
	data  = 7
	bye   = 8

	say    = 9
	answer = 10
	ticked = 11
	opened = 12
	sent   = 13
	closed = 14
	fault  = 15
)

// What the guests of most tests are, and what they are told.
const (
	annBare  = "n=ann,r=abc"
	annHead  = "n,a=dev,"
	annPass  = "pencil"
	annAsk   = "CONNECT web:80 HTTP/1.1\r\n"
	aVerdict = "v=AAAAAAAAAAAAAAAAAAAAAAAAAAAAAAAAAAAAAAAAAAA="

	aChallenge = "r=abcdef,s=AQI=,i=3"
	ok         = "HTTP/1.1 200 OK\r\n\r\n"
	authFor    = "HTTP/1.1 407 X\r\nProxy-Authenticate: "
	aDigest    = `Digest realm="t", nonce="n", algorithm=SHA-256, qop="auth"`
	staleOne   = `Digest realm="t", nonce="o", algorithm=SHA-256, stale=true, qop="auth"`
	auth       = authFor + aDigest + "\r\n\r\n"
	authStale  = authFor + staleOne + "\r\n\r\n"
)

var ann = api.Who{Tenant: "t", User: "ann", Role: "dev"}

// states are all of them.
var states = []int{guest.New, guest.Here, guest.Asking, guest.Proving, guest.Waiting, guest.In, guest.Open, guest.Bad, guest.Gone}

// frameOf returns the bytes of a frame.
func frameOf(kind byte, body string) []byte {
	return append([]byte{kind, byte(len(body) >> 8), byte(len(body))}, body...)
}

// made returns a new guest.
func made(t *testing.T, b *box.Box, who api.Who, pass string) *guest.Guest {
	t.Helper()
	g, e := guest.Make(b, who, pass)
	if g == nil || e != api.OK {
		t.Fatal(who, pass, e)
	}
	return g
}

// sends checks that a method returned this frame.
func sends(t *testing.T, g *guest.Guest, p []byte, e api.Errno, kind byte, body string, state int) {
	t.Helper()
	if e != api.OK || string(p) != string(frameOf(kind, body)) || g.State() != state {
		t.Fatalf("%q, error %d, state %d, not %d %q and state %d", p, e, g.State(), kind, body, state)
	}
}

// hears lets the guest hear a frame and returns its reply.
func hears(t *testing.T, g *guest.Guest, kind byte, body string) []byte {
	t.Helper()
	p := frameOf(kind, body)
	kept := slices.Clone(p)
	reply, e := g.Hear(p)
	if e != api.OK {
		t.Fatalf("%d %q: %d", kind, body, e)
	}
	if !slices.Equal(p, kept) {
		t.Fatal("the frame has changed")
	}
	clear(p)
	return reply
}

// silent lets the guest hear a frame to which it doesn't reply, and checks the state.
func silent(t *testing.T, g *guest.Guest, kind byte, body string, state int) {
	t.Helper()
	if reply := hears(t, g, kind, body); reply != nil || g.State() != state {
		t.Fatalf("%d %q: %q, state %d, not %d", kind, body, reply, g.State(), state)
	}
}

// inState returns a guest in that state.
func inState(t *testing.T, who api.Who, state int) *guest.Guest {
	t.Helper()
	g := made(t, box.New(false), who, annPass)
	if state > guest.New {
		g.Hello()
	}
	switch state {
	case guest.Asking, guest.Proving:
		g.Begin("abc")
		if state == guest.Proving {
			hears(t, g, say, aChallenge)
		}
	case guest.Waiting:
		g.Request("web:80", "c")
	case guest.In, guest.Open:
		g.SetTicket("x")
		g.Show()
		g.SetTicket("")
		if state == guest.Open {
			hears(t, g, opened, "")
		}
	case guest.Bad:
		hears(t, g, fault, "\x00")
	case guest.Gone:
		g.Bye()
	}
	if g.State() != state {
		t.Fatal(g.State(), state)
	}
	return g
}

// seen is all that there is to see of a guest.
func seen(g *guest.Guest) string {
	return fmt.Sprintf("%d %q %q %d", g.State(), g.Ticket(), g.Got(), g.Fault())
}

// mac, hash and xor compute with Go's own library.
func mac(key []byte, text string) []byte {
	h := hmac.New(sha256.New, key)
	h.Write([]byte(text))
	return h.Sum(nil)
}

func hash(text string) []byte {
	sum := sha256.Sum256([]byte(text))
	return sum[:]
}

func xor(x, y []byte) []byte {
	z := make([]byte, len(x))
	for i := range x {
		z[i] = x[i] ^ y[i]
	}
	return z
}

func encode(p []byte) string { return base64.StdEncoding.EncodeToString(p) }

// exchange returns the client final and the verdict of RFC 5802.
func exchange(t *testing.T, head, bare, challenge, nonce, pass, salt string, rounds int) (string, string) {
	t.Helper()
	salted, err := pbkdf2.Key(sha256.New, pass, []byte(salt), rounds, 32)
	if err != nil {
		t.Fatal(err)
	}
	key := mac(salted, "Client Key")
	without := "c=" + encode([]byte(head)) + ",r=" + nonce
	message := bare + "," + challenge + "," + without
	proof := xor(key, mac(hash(string(key)), message))
	return without + ",p=" + encode(proof), "v=" + encode(mac(mac(salted, "Server Key"), message))
}

// response returns the response of RFC 7616 to a challenge.
func response(user, realm, pass, nonce, cnonce, target string) string {
	hex := func(text string) string { return fmt.Sprintf("%x", hash(text)) }
	return hex(strings.Join([]string{hex(user + ":" + realm + ":" + pass), nonce, "00000001", cnonce, "auth", hex("CONNECT:" + target)}, ":"))
}

// Each of these is refused with that error by every Make that gets so far.
type refusal struct {
	text string
	want api.Errno
}

var badTenants = []refusal{
	{"", api.ErrSign}, {"T", api.ErrSign}, {"a b", api.ErrSign}, {"\xff", api.ErrSign}, {strings.Repeat("t", 33), api.ErrSign}, {"t\u00ad", api.ErrSign},
}

var badUsers = []refusal{
	{"\xff", api.ErrForm}, {"\x00\xff", api.ErrForm}, {"a\x00", api.ErrSign}, {"\x7f" + strings.Repeat("a", 40), api.ErrSign}, {"\u202e", api.ErrSign},
	{"", api.ErrShort}, {"\u00ad", api.ErrShort}, {strings.Repeat("a", 33), api.ErrLong}, {strings.Repeat("\u00e4", 17), api.ErrLong},
}

var badPasses = []refusal{
	{"\xff", api.ErrForm}, {"\x1f\xc0\x80", api.ErrForm}, {"\x07", api.ErrSign}, {"\ufeff\u2028", api.ErrSign},
	{"", api.ErrShort}, {"\u200b\ufeff", api.ErrShort}, {strings.Repeat("a", 65), api.ErrLong}, {strings.Repeat("\u20ac", 22), api.ErrLong},
}

// The errors of Make come in the order of the chapter, whichever of them apply.
func TestP26_1MakeErrors(t *testing.T) {
	tenants := append([]refusal{{"t", api.OK}, {strings.Repeat("-", 32), api.OK}}, badTenants...)
	users := append([]refusal{{"ann", api.OK}, {strings.Repeat("\u00ad", 5000) + strings.Repeat("a", 32), api.OK}}, badUsers...)
	passes := append([]refusal{{"pencil", api.OK}, {strings.Repeat("\u200b", 5000) + strings.Repeat("p", 64), api.OK}}, badPasses...)
	for _, b := range []*box.Box{nil, box.New(false), box.New(true)} {
		for _, tenant := range tenants {
			for _, user := range users {
				for _, pass := range passes {
					want := api.ErrNone
					if b != nil {
						want = api.OK
						for _, e := range []api.Errno{pass.want, user.want, tenant.want} {
							if e != api.OK {
								want = e
							}
						}
					}
					g, e := guest.Make(b, api.Who{Tenant: tenant.text, User: user.text, Role: "\xff\x00,"}, pass.text)
					if e != want || (g != nil) != (e == api.OK) {
						t.Fatalf("%q %q %q: %d, not %d", tenant.text, user.text, pass.text, e, want)
					}
				}
			}
		}
		if b.Len() != 0 {
			t.Error("Make computes something")
		}
	}
}

// A new guest has nothing yet, whatever its role is.
func TestP26_1MakeNew(t *testing.T) {
	for _, role := range []string{"", "dev", "No Role", "\xff\x00,", strings.Repeat("r", 5000)} {
		g := made(t, box.New(false), api.Who{Tenant: "t", User: "ann", Role: role}, annPass)
		if got := seen(g); got != `0 "" "" 0` || g.Got() != nil {
			t.Error(got)
		}
	}
}

// Guests of one box are apart from each other.
func TestP26_3Apart(t *testing.T) {
	b := box.New(true)
	g, h := made(t, b, ann, annPass), made(t, b, ann, annPass)
	g.Hello()
	g.SetTicket("x")
	hears(t, g, fault, "\x05")
	if got := seen(h); got != `0 "" "" 0` {
		t.Error(got)
	}
}

// The states have the chapter's numbers.
func TestP26_3Numbers(t *testing.T) {
	for i, state := range states {
		if state != i {
			t.Error(i, state)
		}
		if g := inState(t, ann, state); g.State() != i {
			t.Error(i, g.State())
		}
	}
}

// SetTicket sets the ticket in every state, also a long one, and takes it away.
func TestP26_3SetTicket(t *testing.T) {
	for _, state := range states {
		g := inState(t, ann, state)
		for _, text := range []string{"a", "", strings.Repeat("x", 5000), "\x00", "b"} {
			g.SetTicket(text)
			if g.Ticket() != text || g.State() != state {
				t.Errorf("%q in state %d: %q", text, state, g.Ticket())
			}
		}
	}
}

// What Got returned may be overwritten, and does not change when more is received.
func TestP26_3GotMemory(t *testing.T) {
	g := inState(t, ann, guest.Open)
	var want []byte
	for i := range 40 {
		part := strings.Repeat(string(rune('a'+i%26)), i)
		hears(t, g, sent, part)
		want = append(want, part...)
		old := g.Got()
		if !slices.Equal(old, want) || !slices.Equal(g.Got(), want) {
			t.Fatalf("%q, not %q", old, want)
		}
		clear(old[:cap(old)])
		if !slices.Equal(g.Got(), want) {
			t.Fatalf("%q, not %q", g.Got(), want)
		}
	}
}

// What was received stays, also when the tunnel is no longer there.
func TestP26_3GotStays(t *testing.T) {
	g := inState(t, ann, guest.Open)
	hears(t, g, sent, "ab")
	silent(t, g, closed, "", guest.Gone)
	if got := seen(g); got != `8 "" "ab" 0` {
		t.Error(got)
	}
	h := inState(t, ann, guest.Open)
	hears(t, h, sent, "c")
	h.Bye()
	if got := seen(h); got != `8 "" "c" 0` {
		t.Error(got)
	}
}

// The last fault counts, whichever was before.
func TestP26_3Fault(t *testing.T) {
	g := inState(t, ann, guest.Open)
	for _, n := range []byte{12, 0, 255, 14} {
		silent(t, g, fault, string([]byte{n}), guest.Open)
		if g.Fault() != api.Errno(n) {
			t.Error(n, g.Fault())
		}
	}
	g.Bye()
	if g.Fault() != api.ErrState {
		t.Error(g.Fault())
	}
}

// A nil guest is gone, has nothing, and all that it does is ErrNone.
func TestP26_3Nil(t *testing.T) {
	var g *guest.Guest
	g.SetTicket("x")
	if g.State() != guest.Gone || g.Ticket() != "" || g.Got() != nil || g.Fault() != api.ErrNone {
		t.Error(g.State(), g.Ticket(), g.Got(), g.Fault())
	}
	for i, do := range []func() ([]byte, api.Errno){
		g.Hello, g.Show, g.Bye,
		func() ([]byte, api.Errno) { return g.Begin("abc") },
		func() ([]byte, api.Errno) { return g.Begin("") },
		func() ([]byte, api.Errno) { return g.Request("web:80", "c") },
		func() ([]byte, api.Errno) { return g.Request("", "") },
		func() ([]byte, api.Errno) { return g.Open("web:80") },
		func() ([]byte, api.Errno) { return g.Open("") },
		func() ([]byte, api.Errno) { return g.Send(make([]byte, 4000)) },
		func() ([]byte, api.Errno) { return g.Hear(frameOf(closed, "")) },
		func() ([]byte, api.Errno) { return g.Hear(nil) },
	} {
		if p, e := do(); p != nil || e != api.ErrNone {
			t.Error(i, p, e)
		}
	}
}
