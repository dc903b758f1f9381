package guest_test

import (
	"fmt"
	"math/rand"
	"slices"
	"strings"
	"testing"

	"ostiary/api"
	"ostiary/box"
	"ostiary/cred"
	"ostiary/digest"
	"ostiary/frame"
	"ostiary/gate"
	"ostiary/guard"
	"ostiary/guest"
	"ostiary/head"
	"ostiary/nonce"
	"ostiary/rule"
	"ostiary/scram"
)

// model is a guest by the chapter's tables, row by row. It reads messages by the lower layers and computes with Go's own library.
type model struct {
	who           api.Who
	state         int
	nonce         string
	target        string
	cnonce        string
	wanted        string // the verdict
	answers       int
	ticket        string
	got           string
	fault         api.Errno
	name, pass    string // prepared
	replies, ends int    // how often it replied, and how often it got in or open
}

func (m *model) seen() string {
	return fmt.Sprintf("%d %q %q %d", m.state, m.ticket, m.got, m.fault)
}

// call does what the chapter says of a method.
func (m *model) call(method, x, y string) (string, api.Errno) {
	own := map[string][]int{
		"Hello": {guest.New}, "Begin": {guest.Here}, "Request": {guest.Here}, "Show": {guest.Here}, "Open": {guest.In}, "Send": {guest.Open},
		"Bye": {guest.Here, guest.Asking, guest.Proving, guest.Waiting, guest.In, guest.Open, guest.Bad},
	}
	if !slices.Contains(own[method], m.state) {
		return "", api.ErrState
	}
	kind, body, after := byte(0), "", m.state
	switch method {
	case "Hello":
		kind, body, after = hello, m.who.Tenant, guest.Here
	case "Begin":
		text, e := scram.First{Flag: "n", Authz: m.who.Role, User: m.who.User, Nonce: x}.Text()
		if e != api.OK {
			return "", e
		}
		kind, body, after = first, text, guest.Asking
	case "Request":
		if _, _, ok := head.Split(x); !ok || !scram.Nonce(y) {
			return "", api.ErrForm
		}
		kind, body, after = ask, "CONNECT "+x+" HTTP/1.1\r\n\r\n", guest.Waiting
	case "Show":
		if m.ticket == "" {
			return "", api.ErrNone
		}
		kind, body, after = show, m.ticket, guest.In
	case "Open":
		if _, _, ok := head.Split(x); !ok {
			return "", api.ErrForm
		}
		kind, body = open, x
	case "Send":
		kind, body = data, x
	case "Bye":
		kind, after = bye, guest.Gone
	}
	if len(body) > 2048 {
		return "", api.ErrLong
	}
	m.state = after
	if method == "Begin" {
		m.nonce = x
	}
	if method == "Request" {
		m.target, m.cnonce = x, y
	}
	return string(frameOf(kind, body)), api.OK
}

// hear does what the chapter says of a frame.
func (m *model) hear(t *testing.T, kind byte, body string) string {
	switch {
	case m.state == guest.Gone:
	case kind == say && m.state == guest.Asking:
		c, e := scram.ParseChallenge(body)
		if e != api.OK || !strings.HasPrefix(c.Nonce, m.nonce) || len(c.Nonce) == len(m.nonce) {
			m.state = guest.Bad
			return ""
		}
		f := scram.First{Flag: "n", Authz: m.who.Role, User: m.who.User, Nonce: m.nonce}
		bare, _ := f.Bare()
		text, verdict := exchange(t, f.Head(), bare, body, c.Nonce, m.pass, string(c.Salt), c.Iter)
		m.state, m.wanted = guest.Proving, verdict
		m.replies++
		return string(frameOf(final, text))
	case kind == say && m.state == guest.Proving:
		v, e := scram.ParseVerdict(body)
		m.state = guest.Bad
		if e == api.OK && "v="+encode(v.Sum) == m.wanted {
			m.state = guest.In
			m.ends++
		}
	case kind == ticked:
		m.ticket = body
	case kind == answer && m.state == guest.Waiting:
		return m.answer(body)
	case kind == opened && m.state == guest.In:
		m.state = guest.Open
		m.ends++
	case kind == sent && m.state == guest.Open:
		m.got += body
	case kind == closed:
		m.state = guest.Gone
	case kind == fault && len(body) == 1:
		m.fault = api.Errno(body[0])
		if m.state != guest.In && m.state != guest.Open {
			m.state = guest.Bad
		}
	}
	return ""
}

// answer does what the chapter says of an Answer frame.
func (m *model) answer(body string) string {
	m.state = guest.Bad
	a, n, e := head.ParseAnswer([]byte(body))
	if e != api.OK || n != len(body) {
		return ""
	}
	if a.Status == 200 {
		m.state = guest.Open
		m.ends++
		return ""
	}
	header, _ := head.First(a.Fields, "Proxy-Authenticate")
	c, e := digest.ParseChallenge(header)
	if a.Status != 407 || e != api.OK || c.Realm != m.who.Tenant || m.answers > 0 && !c.Stale {
		return ""
	}
	text := fmt.Sprintf("CONNECT %s HTTP/1.1\r\nProxy-Authorization: Digest username=\"%s\", realm=\"%s\", nonce=\"%s\", uri=\"%s\", qop=auth, nc=00000001, cnonce=\"%s\", response=\"%s\", algorithm=SHA-256\r\n",
		m.target, m.who.User, c.Realm, c.Nonce, m.target, m.cnonce, response(m.name, c.Realm, m.pass, c.Nonce, m.cnonce, m.target))
	if m.who.Role != "" {
		text += "X-Role: " + m.who.Role + "\r\n"
	}
	m.state = guest.Waiting
	m.answers++
	m.replies++
	return string(frameOf(ask, text+"\r\n"))
}

// call calls the method of the guest.
func call(g *guest.Guest, method, x, y string) ([]byte, api.Errno) {
	switch method {
	case "Hello":
		return g.Hello()
	case "Begin":
		return g.Begin(x)
	case "Request":
		return g.Request(x, y)
	case "Show":
		return g.Show()
	case "Open":
		return g.Open(x)
	case "Send":
		return g.Send([]byte(x))
	}
	return g.Bye()
}

// oneOf returns one of these.
func oneOf[T any](r *rand.Rand, l ...T) T { return l[r.Intn(len(l))] }

// said returns the kind and body of a frame that may come; some fit what the model waits for.
func said(r *rand.Rand, m *model) (byte, string) {
	if r.Intn(3) == 0 {
		return byte(1 + r.Intn(15)), oneOf(r, append(bodies, "\x01", m.wanted)...)
	}
	stale := oneOf(r, "", "", "stale=true, ", "stale=false, ")
	realm := oneOf(r, "t", "t", "t", "t", "u")
	switch m.state {
	case guest.Asking:
		return say, fmt.Sprintf("r=%s%s,s=%s,i=%d%s", m.nonce, oneOf(r, "x", "y", "z", ""), encode([]byte(oneOf(r, "a", "bc"))), 1+r.Intn(3), oneOf(r, "", "", ",x=y"))
	case guest.Proving:
		return say, oneOf(r, m.wanted, m.wanted, m.wanted, aVerdict)
	case guest.Waiting:
		challenge := fmt.Sprintf(`Digest realm="%s", nonce="%s", algorithm=SHA-256, %sqop="auth"`, realm, oneOf(r, "n", "o", "p"), stale)
		return answer, oneOf(r, authFor+challenge+"\r\n\r\n", authFor+challenge+"\r\n\r\n", authFor+challenge+"\r\n\r\n", ok)
	case guest.In:
		return opened, oneOf(r, "", "web:80")
	}
	return sent, oneOf(r, "", "ab", "c")
}

// Under random calls and frames, the guest does what the model does.
func TestP26_2Model(t *testing.T) {
	r := rand.New(rand.NewSource(26))
	methods := []string{"Hello", "Begin", "Request", "Show", "Open", "Send", "Bye"}
	states, replies, ends := map[int]int{}, 0, 0
	for range 6000 {
		who := api.Who{Tenant: oneOf(r, "t", "t", "t", "u"), User: oneOf(r, "ann", "a\u00adnn", "a=b"), Role: oneOf(r, "", "dev", "a,b")}
		m := &model{who: who, name: strings.ReplaceAll(who.User, "\u00ad", ""), pass: "pen cil"}
		g := made(t, box.New(false), who, "pen\u00a0cil\u00ad")
		for range 14 {
			var want, got, what string
			var wantErr, gotErr api.Errno
			if r.Intn(2) == 0 || m.state < guest.Asking {
				method := oneOf(r, methods...)
				if method == "Bye" && r.Intn(4) > 0 {
					method = "Begin"
				}
				x := oneOf(r, "abc", "web:80", "", "x y", strings.Repeat("s", 2049))
				y := oneOf(r, "c", "c", "d,", "")
				what = method + " " + x + " " + y
				want, wantErr = m.call(method, x, y)
				p, e := call(g, method, x, y)
				got, gotErr = string(p), e
			} else {
				kind, body := said(r, m)
				what = fmt.Sprintf("%d %q", kind, body)
				want = m.hear(t, kind, body)
				p, e := g.Hear(frameOf(kind, body))
				got, gotErr = string(p), e
			}
			if got != want || gotErr != wantErr || seen(g) != m.seen() {
				t.Fatalf("%s: %q %d %s, not %q %d %s", what, got, gotErr, seen(g), want, wantErr, m.seen())
			}
			if r.Intn(20) == 0 {
				m.ticket = oneOf(r, "", "k", strings.Repeat("x", 2049))
				g.SetTicket(m.ticket)
			}
			states[m.state]++
		}
		replies += m.replies
		ends += m.ends
	}
	for state := guest.New; state <= guest.Gone; state++ {
		if states[state] < 100 {
			t.Error("too few steps in state", state, states)
		}
	}
	if replies < 100 || ends < 100 {
		t.Error("too few replies or ends", replies, ends)
	}
}

// proxy is a gate for tenant t, with users whose names and passwords are odd.
func proxy(t *testing.T, symbolic bool) *gate.Gate {
	t.Helper()
	g, e := gate.New(gate.Config{
		Conns: 4, Nonces: nonce.Config{Room: 8, Window: 50}, Guard: guard.Config{Room: 8, Base: 1, Most: 1, Hold: 9},
		Master: []byte("m"), Keys: 2, Life: 90, Room: 100, Iter: 2, Symbolic: symbolic,
	})
	if e != api.OK {
		t.Fatal(e)
	}
	hands := g.Hands()
	hands.Users.AddTenant("t")
	for _, user := range []struct{ name, pass string }{{"ann", "pencil"}, {"a\u00adb,c=\"d\"", "\u3000p\u00a0\u00ad"}} {
		secret, e := cred.Make(hands.Box, "t", user.name, user.pass, []byte{1, 2}, 3)
		if e != api.OK || hands.Users.Add("t", user.name, secret) != api.OK || hands.Users.Grant("t", user.name, "dev") != api.OK {
			t.Fatal(user, e)
		}
	}
	if hands.Policy, _, e = rule.Parse("allow dev t web 80\n"); e != api.OK {
		t.Fatal(e)
	}
	return g
}

// draws counts the draws of all tests. No two are the same, as the nonce store asks.
var draws int

// draw lets a draw wait at the gate.
func draw(g *gate.Gate) {
	draws++
	g.Step(gate.Input{Kind: gate.Draw, Text: fmt.Sprint("d", draws)})
}

// carry passes bytes to the gate, and what the gate and the guest then say to each other.
func carry(t *testing.T, g *gate.Gate, conn int, c *guest.Guest, p []byte, e api.Errno) {
	t.Helper()
	if e != api.OK {
		t.Fatal(e)
	}
	for len(p) > 0 {
		draw(g)
		out := g.Step(gate.Input{Kind: gate.Bytes, Conn: conn, Data: p}).Out
		p = nil
		for _, o := range out {
			reply, e := c.Hear(o.Data)
			if e != api.OK {
				t.Fatal(e)
			}
			p = append(p, reply...)
		}
	}
}

// come dials and names the tenant.
func come(t *testing.T, g *gate.Gate, who api.Who, pass string) (int, *guest.Guest) {
	t.Helper()
	c := made(t, g.Hands().Box, who, pass)
	conn := g.Step(gate.Input{Kind: gate.Dial, Source: "s"}).Conn
	p, e := c.Hello()
	carry(t, g, conn, c, p, e)
	return conn, c
}

// passes checks that bytes pass through a tunnel, in both directions.
func passes(t *testing.T, g *gate.Gate, conn int, c *guest.Guest) {
	t.Helper()
	if v, _ := g.Look(conn); c.State() != guest.Open || v.State != 4 || v.Target != "web:80" {
		t.Fatal(c.State(), c.Fault(), v)
	}
	p, e := c.Send([]byte("up\x00"))
	carry(t, g, conn, c, p, e)
	if r := g.Step(gate.Input{Kind: gate.Drain, Conn: conn, Ticks: 99}); len(r.Out) != 1 || string(r.Out[0].Data) != "up\x00" {
		t.Error(r)
	}
	for _, o := range g.Step(gate.Input{Kind: gate.Up, Conn: conn, Data: []byte("down\xff")}).Out {
		c.Hear(o.Data)
	}
	if string(c.Got()) != "down\xff" {
		t.Errorf("%q", c.Got())
	}
	p, e = c.Bye()
	carry(t, g, conn, c, p, e)
	if _, e := g.Look(conn); e != api.ErrNone {
		t.Error(e)
	}
}

// people are forms of the names and passwords of the gate's users.
var people = []struct{ user, pass string }{
	{"ann", "pencil"}, {"\u00adann\u200b", "pen\u00adcil"}, {"a\u00adb,c=\"d\"", "\u3000p\u00a0\u00ad"}, {"ab,c=\"d\"\ufeff", "\u200b p "},
}

// A guest that has the password is admitted by a gate, by SCRAM, by its ticket, and by Digest, whatever form its name and password have.
func TestP26_2Admitted(t *testing.T) {
	for _, symbolic := range []bool{false, true} {
		for _, who := range people {
			for _, role := range []string{"dev", ""} {
				g := proxy(t, symbolic)
				ident := api.Who{Tenant: "t", User: who.user, Role: role}
				conn, c := come(t, g, ident, who.pass)
				p, e := c.Begin("abc")
				carry(t, g, conn, c, p, e)
				if c.State() != guest.In || c.Ticket() == "" {
					t.Fatalf("%q: state %d, ticket %q", who.user, c.State(), c.Ticket())
				}
				ticket := c.Ticket()
				p, e = c.Open("web:80")
				carry(t, g, conn, c, p, e)
				passes(t, g, conn, c)

				conn, c = come(t, g, ident, who.pass)
				c.SetTicket(ticket)
				p, e = c.Show()
				carry(t, g, conn, c, p, e)
				p, e = c.Open("web:80")
				carry(t, g, conn, c, p, e)
				passes(t, g, conn, c)

				conn, c = come(t, g, ident, who.pass)
				p, e = c.Request("web:80", "c")
				carry(t, g, conn, c, p, e)
				passes(t, g, conn, c)
			}
		}
	}
}

// A guest whose challenge has become too old answers the next one, since that is stale.
func TestP26_2AdmittedStale(t *testing.T) {
	g := proxy(t, false)
	conn, c := come(t, g, ann, "pencil")
	p, _ := c.Request("web:80", "c")
	draw(g)
	out := g.Step(gate.Input{Kind: gate.Bytes, Conn: conn, Data: p}).Out
	p, e := c.Hear(out[0].Data)
	g.Step(gate.Input{Kind: gate.Tick, Ticks: 60})
	carry(t, g, conn, c, p, e)
	passes(t, g, conn, c)
}

// A guest with another password, or who is unknown, is refused and becomes bad.
func TestP26_2Refused(t *testing.T) {
	for _, symbolic := range []bool{false, true} {
		for _, who := range []struct{ user, pass string }{{"ann", "pencil "}, {"ann", "p"}, {"eve", "pencil"}} {
			g := proxy(t, symbolic)
			ident := api.Who{Tenant: "t", User: who.user, Role: "dev"}
			conn, c := come(t, g, ident, who.pass)
			p, e := c.Begin("abc")
			carry(t, g, conn, c, p, e)
			if c.State() != guest.Bad || c.Ticket() != "" || c.Fault() != api.OK {
				t.Error(who, c.State(), c.Ticket(), c.Fault())
			}
			g.Step(gate.Input{Kind: gate.Tick, Ticks: 5})
			conn, c = come(t, g, ident, who.pass)
			p, e = c.Request("web:80", "c")
			carry(t, g, conn, c, p, e)
			if c.State() != guest.Bad || c.Ticket() != "" || c.Fault() != api.OK {
				t.Error(who, c.State(), c.Ticket(), c.Fault())
			}
		}
	}
}

// What the gate refuses later is a fault and no more: the guest is still in.
func TestP26_2RefusedTarget(t *testing.T) {
	g := proxy(t, false)
	conn, c := come(t, g, ann, "pencil")
	p, e := c.Begin("abc")
	carry(t, g, conn, c, p, e)
	p, e = c.Open("db:80")
	carry(t, g, conn, c, p, e)
	if c.State() != guest.In || c.Fault() != api.ErrDenied {
		t.Error(c.State(), c.Fault())
	}
	p, e = c.Open("web:80")
	carry(t, g, conn, c, p, e)
	passes(t, g, conn, c)
}

// A frame that the guest sends is one that layer 6 reads.
func TestP26_1Frames(t *testing.T) {
	g := made(t, box.New(false), ann, annPass)
	p, _ := g.Hello()
	if f, n, e := frame.Unpack(p); e != api.OK || n != len(p) || f.Kind != hello || string(f.Body) != "t" {
		t.Error(f, n, e)
	}
}
