package guest_test

import (
	"slices"
	"strings"
	"testing"

	"ostiary/api"
	"ostiary/box"
	"ostiary/guest"
)

// act is a call of a method.
type act struct {
	name string
	own  int // the state that it belongs to
	do   func(g *guest.Guest) ([]byte, api.Errno)
}

// acts are calls that succeed in their states, and calls that would fail there.
var acts = []act{
	{"Hello", guest.New, func(g *guest.Guest) ([]byte, api.Errno) { return g.Hello() }},
	{"Begin", guest.Here, func(g *guest.Guest) ([]byte, api.Errno) { return g.Begin("abc") }},
	{"Begin nothing", guest.Here, func(g *guest.Guest) ([]byte, api.Errno) { return g.Begin("") }},
	{"Request", guest.Here, func(g *guest.Guest) ([]byte, api.Errno) { return g.Request("web:80", "c") }},
	{"Request nothing", guest.Here, func(g *guest.Guest) ([]byte, api.Errno) { return g.Request("", "") }},
	{"Show", guest.Here, func(g *guest.Guest) ([]byte, api.Errno) { return g.Show() }},
	{"Open", guest.In, func(g *guest.Guest) ([]byte, api.Errno) { return g.Open("web:80") }},
	{"Open nothing", guest.In, func(g *guest.Guest) ([]byte, api.Errno) { return g.Open("") }},
	{"Send", guest.Open, func(g *guest.Guest) ([]byte, api.Errno) { return g.Send([]byte("x")) }},
	{"Send much", guest.Open, func(g *guest.Guest) ([]byte, api.Errno) { return g.Send(make([]byte, 3000)) }},
}

// In another state than its own, a method is ErrState before any other error, and nothing happens.
func TestP26_1States(t *testing.T) {
	for _, a := range acts {
		for _, state := range states {
			if state == a.own {
				continue
			}
			for _, ticket := range []string{"", "x", strings.Repeat("x", 3000)} {
				g := inState(t, ann, state)
				g.SetTicket(ticket)
				before := seen(g)
				if p, e := a.do(g); p != nil || e != api.ErrState || seen(g) != before {
					t.Errorf("%s in state %d: %q, %d, %s", a.name, state, p, e, seen(g))
				}
			}
		}
	}
}

// In its own state no method is ErrState.
func TestP26_1OwnStates(t *testing.T) {
	for _, a := range acts {
		if _, e := a.do(inState(t, ann, a.own)); e == api.ErrState {
			t.Error(a.name)
		}
	}
}

// A method in the wrong state spoils nothing of what is going on.
func TestP26_1StatesSpoilNothing(t *testing.T) {
	g := inState(t, ann, guest.Asking)
	for _, a := range acts {
		a.do(g)
	}
	want, verdict := exchange(t, annHead, annBare, aChallenge, "abcdef", annPass, "\x01\x02", 3)
	if p := hears(t, g, say, aChallenge); string(p) != string(frameOf(final, want)) {
		t.Fatalf("%q, not %q", p, want)
	}
	for _, a := range acts {
		a.do(g)
	}
	silent(t, g, say, verdict, guest.In)

	g = inState(t, ann, guest.Waiting)
	g.Request("other:81", "d")
	if p := hears(t, g, answer, auth); !strings.HasPrefix(string(p[3:]), annAsk) || !strings.Contains(string(p), `cnonce="c"`) {
		t.Errorf("%q", p)
	}
}

// Hello names the tenant.
func TestP26_1Hello(t *testing.T) {
	for _, tenant := range []string{"t", "0", "-_-", strings.Repeat("z", 32)} {
		g := made(t, box.New(false), api.Who{Tenant: tenant, User: "ann"}, annPass)
		p, e := g.Hello()
		sends(t, g, p, e, hello, tenant, guest.Here)
	}
}

// Begin sends the client first, with the name as it was passed.
func TestP26_1Begin(t *testing.T) {
	long := strings.Repeat("!", 64)
	for _, c := range []struct{ user, role, nonce, want string }{
		{"ann", "", "abc", "n,,n=ann,r=abc"},
		{"ann", "dev", "a", "n,a=dev,n=ann,r=a"},
		{"a=b,c", "d,e=f", "~", "n,a=d=2Ce=3Df,n=a=3Db=2Cc,r=~"},
		{"a\u00adnn\u00a0x", "No Role", "=", "n,a=No Role,n=a\u00adnn\u00a0x,r=="},
		{"\u00e4\U0001f600", "\u20ac\u00ad", long, "n,a=\u20ac\u00ad,n=\u00e4\U0001f600,r=" + long},
		{"n", "\x01\n", "\"\\", "n,a=\x01\n,n=n,r=\"\\"},
	} {
		g := made(t, box.New(false), api.Who{Tenant: "t", User: c.user, Role: c.role}, annPass)
		g.Hello()
		p, e := g.Begin(c.nonce)
		sends(t, g, p, e, first, c.want, guest.Asking)
	}
}

// There is no client first with such a nonce, and the guest may try another.
func TestP26_1BeginNonces(t *testing.T) {
	bad := []string{"", ",", "a,b", " ", "a ", "\x7f", "\x00", "\u00e4", strings.Repeat("a", 65), strings.Repeat("a", 5000)}
	g := inState(t, ann, guest.Here)
	for _, nonce := range bad {
		if p, e := g.Begin(nonce); p != nil || e != api.ErrForm || g.State() != guest.Here {
			t.Errorf("%q: %q %d", nonce, p, e)
		}
	}
	p, e := g.Begin("abc")
	sends(t, g, p, e, first, "n,a=dev,n=ann,r=abc", guest.Asking)
	want, _ := exchange(t, annHead, annBare, aChallenge, "abcdef", annPass, "\x01\x02", 3)
	if p := hears(t, g, say, aChallenge); string(p) != string(frameOf(final, want)) {
		t.Errorf("%q, not %q", p, want)
	}
}

// There is no client first with such a role.
func TestP26_1BeginRoles(t *testing.T) {
	for _, role := range []string{"\x00", "a\x00b", "\xff", "\xc0\x80", "\xed\xa0\x80", "\xff" + strings.Repeat("r", 5000)} {
		g := inState(t, api.Who{Tenant: "t", User: "ann", Role: role}, guest.Here)
		for _, nonce := range []string{"abc", ""} {
			if p, e := g.Begin(nonce); p != nil || e != api.ErrForm || g.State() != guest.Here {
				t.Errorf("%q: %q %d", role, p, e)
			}
		}
		if p, e := g.Request("web:80", "c"); e != api.OK {
			t.Errorf("%q: %q %d", role, p, e)
		}
	}
}

// A client first has at most as many bytes as a frame carries; ErrForm goes before ErrLong.
func TestP26_1BeginLong(t *testing.T) {
	plain := len("n,a=,n=ann,r=abc")
	for _, size := range []int{1, 2048 - plain, 2049 - plain, 3000, 4096 - plain, 4097 - plain, 9000} {
		role := strings.Repeat("r", size)
		g := inState(t, api.Who{Tenant: "t", User: "ann", Role: role}, guest.Here)
		if p, e := g.Begin(""); p != nil || e != api.ErrForm || g.State() != guest.Here {
			t.Error(size, p, e)
		}
		p, e := g.Begin("abc")
		if size+plain <= 2048 {
			sends(t, g, p, e, first, "n,a="+role+",n=ann,r=abc", guest.Asking)
		} else if p != nil || e != api.ErrLong || g.State() != guest.Here {
			t.Error(size, p, e, g.State())
		}
	}
	user := "a" + strings.Repeat("\u00ad", 1100)
	g := inState(t, api.Who{Tenant: "t", User: user}, guest.Here)
	if p, e := g.Begin("abc"); p != nil || e != api.ErrLong || g.State() != guest.Here {
		t.Error(p, e, g.State())
	}
	escaped := strings.Repeat("\u00ad", 1000) + strings.Repeat("=", 20)
	g = inState(t, api.Who{Tenant: "t", User: escaped}, guest.Here)
	if p, e := g.Begin("abc"); p != nil || e != api.ErrLong || g.State() != guest.Here {
		t.Error(p, e, g.State())
	}
}

// Request asks for a tunnel, without an answer and without a role.
func TestP26_1Request(t *testing.T) {
	long := strings.Repeat("h", 32)
	for _, target := range []string{"web:80", "a.b-c_D:1", "0:65535", long + ":9", "10.0.0.1:443"} {
		for _, cnonce := range []string{"c", "\"\\", "~", strings.Repeat("x", 64)} {
			g := inState(t, ann, guest.Here)
			p, e := g.Request(target, cnonce)
			sends(t, g, p, e, ask, "CONNECT "+target+" HTTP/1.1\r\n\r\n", guest.Waiting)
		}
	}
}

// badTargets are no host and port.
var badTargets = []string{
	"", "web", "web:", ":80", "web:0", "web:080", "web:65536", "web:8x", "web:+8", "a b:80", "web:80 ", " web:80", "web:80\r\n", "[::1]:80", "\u00e4:80", "a:b:80",
	strings.Repeat("h", 33) + ":80", strings.Repeat("h", 5000) + ":80", "web:" + strings.Repeat("8", 5000), "http://web:80", "web/:80",
}

// badCnonces are no nonces.
var badCnonces = []string{"", ",", "a,", " ", "a b", "\x7f", "\n", "\u00e4", strings.Repeat("c", 65), strings.Repeat("c", 5000)}

// Whatever is wrong with a request is ErrForm, and the guest may make another.
func TestP26_1RequestErrors(t *testing.T) {
	g := inState(t, ann, guest.Here)
	for _, target := range append([]string{"web:80"}, badTargets...) {
		for _, cnonce := range append([]string{"c"}, badCnonces...) {
			if target == "web:80" && cnonce == "c" {
				continue
			}
			if p, e := g.Request(target, cnonce); p != nil || e != api.ErrForm || g.State() != guest.Here {
				t.Errorf("%q %q: %q %d", target, cnonce, p, e)
			}
		}
	}
	p, e := g.Request("db:1", "z")
	sends(t, g, p, e, ask, "CONNECT db:1 HTTP/1.1\r\n\r\n", guest.Waiting)
	if p := string(hears(t, g, answer, auth)); !strings.Contains(p, `uri="db:1"`) || !strings.Contains(p, `cnonce="z"`) {
		t.Errorf("%q", p)
	}
}

// Show shows the ticket, if there is one and a frame carries it.
func TestP26_1Show(t *testing.T) {
	g := inState(t, ann, guest.Here)
	if p, e := g.Show(); p != nil || e != api.ErrNone || g.State() != guest.Here {
		t.Error(p, e, g.State())
	}
	for _, size := range []int{2049, 4096, 70000} {
		g.SetTicket(strings.Repeat("x", size))
		if p, e := g.Show(); p != nil || e != api.ErrLong || g.State() != guest.Here || len(g.Ticket()) != size {
			t.Error(size, len(p), e, g.State())
		}
	}
	g.SetTicket("")
	if p, e := g.Show(); p != nil || e != api.ErrNone || g.State() != guest.Here {
		t.Error(p, e, g.State())
	}
	for _, text := range []string{"t1", "\x00\xff", " ", strings.Repeat("x", 2048)} {
		g := inState(t, ann, guest.Here)
		g.SetTicket("other")
		g.SetTicket(text)
		p, e := g.Show()
		sends(t, g, p, e, show, text, guest.In)
		if g.Ticket() != text {
			t.Errorf("%q", g.Ticket())
		}
	}
}

// The ticket that the gate sent is the one that is shown.
func TestP26_1ShowSent(t *testing.T) {
	g := inState(t, ann, guest.Here)
	hears(t, g, ticked, "abc")
	p, e := g.Show()
	sends(t, g, p, e, show, "abc", guest.In)
}

// Open asks for a tunnel as often as one likes; the guest has none before the gate says so.
func TestP26_1Open(t *testing.T) {
	g := inState(t, ann, guest.In)
	for _, target := range []string{"web:80", "a.b-c_D:1", "0:65535", strings.Repeat("h", 32) + ":9", "web:80"} {
		p, e := g.Open(target)
		sends(t, g, p, e, open, target, guest.In)
	}
	for _, target := range badTargets {
		if p, e := g.Open(target); p != nil || e != api.ErrForm || g.State() != guest.In {
			t.Errorf("%q: %q %d", target, p, e)
		}
	}
}

// Send sends any bytes that a frame carries.
func TestP26_1Send(t *testing.T) {
	g := inState(t, ann, guest.Open)
	for _, text := range []string{"x", "", "\x00\xff\r\n", strings.Repeat("y", 2047), strings.Repeat("z", 2048)} {
		p, e := g.Send([]byte(text))
		sends(t, g, p, e, data, text, guest.Open)
	}
	p, e := g.Send(nil)
	sends(t, g, p, e, data, "", guest.Open)
	for _, size := range []int{2049, 65536, 1 << 20} {
		if p, e := g.Send(make([]byte, size)); p != nil || e != api.ErrLong || g.State() != guest.Open {
			t.Error(size, len(p), e, g.State())
		}
	}
	if got := seen(g); got != `6 "" "" 0` {
		t.Error(got)
	}
}

// A frame shares no memory with what was sent, nor with the frame before.
func TestP26_1SendMemory(t *testing.T) {
	g := inState(t, ann, guest.Open)
	text := append(make([]byte, 0, 64), "hello"...)
	p, _ := g.Send(text)
	if spare := text[:cap(text)]; !slices.Equal(spare[5:], make([]byte, 59)) || string(text) != "hello" {
		t.Errorf("%q", spare)
	}
	clear(text[:cap(text)])
	q, _ := g.Send([]byte("world"))
	if string(p) != string(frameOf(data, "hello")) || string(q) != string(frameOf(data, "world")) {
		t.Errorf("%q %q", p, q)
	}
	clear(p[:cap(p)])
	if string(q) != string(frameOf(data, "world")) {
		t.Errorf("%q", q)
	}
}

// A guest leaves from every state but new and gone, and keeps what it has.
func TestP26_1Bye(t *testing.T) {
	for _, state := range states {
		g := inState(t, ann, state)
		g.SetTicket("x")
		if state == guest.New || state == guest.Gone {
			if p, e := g.Bye(); p != nil || e != api.ErrState || g.State() != state {
				t.Error(state, p, e, g.State())
			}
			continue
		}
		p, e := g.Bye()
		sends(t, g, p, e, bye, "", guest.Gone)
		if g.Ticket() != "x" {
			t.Error(state, g.Ticket())
		}
		if p, e := g.Bye(); p != nil || e != api.ErrState {
			t.Error(state, p, e)
		}
	}
}

// What a method returned may be overwritten.
func TestP26_1ResultMemory(t *testing.T) {
	g := made(t, box.New(false), ann, annPass)
	wipe := func(p []byte, e api.Errno) {
		if e != api.OK {
			t.Error(e)
		}
		clear(p[:cap(p)])
	}
	wipe(g.Hello())
	wipe(g.Request("web:80", "c"))
	wipe(hears(t, g, answer, auth), api.OK)
	wipe(hears(t, g, answer, authStale), api.OK)
	hears(t, g, ticked, "x")
	silent(t, g, answer, ok, guest.Open)
	wipe(g.Send([]byte("x")))
	h := made(t, box.New(false), ann, annPass)
	wipe(h.Hello())
	h.SetTicket(g.Ticket())
	wipe(h.Show())
	wipe(h.Open("web:80"))
	if h.Ticket() != "x" {
		t.Errorf("%q", h.Ticket())
	}
}

// The chapter's example: the client first, and that a challenge is answered by a client final.
func TestP26_2Example(t *testing.T) {
	g := made(t, box.New(false), api.Who{Tenant: "t", User: "ann"}, annPass)
	g.Hello()
	p, e := g.Begin("abc")
	sends(t, g, p, e, first, "n,,n=ann,r=abc", guest.Asking)
	want, verdict := exchange(t, "n,,", annBare, aChallenge, "abcdef", annPass, "\x01\x02", 3)
	sends(t, g, hears(t, g, say, aChallenge), api.OK, final, want, guest.Proving)
	silent(t, g, say, verdict, guest.In)
}
