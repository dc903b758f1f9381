package gate_test

import (
	"fmt"
	"slices"
	"strings"
	"testing"

	"ostiary/api"
	"ostiary/digest"
	"ostiary/gate"
	"ostiary/name"
	"ostiary/proof"
)

// The answers that have no field.
var (
	wentWell    = said{answer, "HTTP/1.1 200 OK\r\n\r\n"}
	badRequest  = said{answer, "HTTP/1.1 400 Bad Request\r\n\r\n"}
	forbidden   = said{answer, "HTTP/1.1 403 Forbidden\r\n\r\n"}
	tooMany     = said{answer, "HTTP/1.1 429 Too Many Requests\r\n\r\n"}
	unavailable = said{answer, "HTTP/1.1 503 Service Unavailable\r\n\r\n"}
)

// challenged is the answer that asks the client of a tenant to authenticate with a nonce.
func challenged(tenant, nonce string, stale bool) said {
	field := fmt.Sprintf(`Digest realm="%s", nonce="%s", algorithm=SHA-256, qop="auth"`, tenant, nonce)
	if stale {
		field = strings.Replace(field, ", qop", ", stale=true, qop", 1)
	}
	return said{answer, "HTTP/1.1 407 Proxy Authentication Required\r\nProxy-Authenticate: " + field + "\r\n\r\n"}
}

// connect writes a request with these fields.
func connect(target string, fields ...string) string {
	text := "CONNECT " + target + " HTTP/1.1\r\n"
	for _, f := range fields {
		text += f + "\r\n"
	}
	return text + "\r\n"
}

// login is what a client answers a challenge with.
type login struct {
	realm, user, pass, nonce, uri string
	count                         uint32
}

// header returns the value of its field. The secret is that of the prepared name, however the client writes it.
func (l login) header(t *testing.T, g *gate.Gate) string {
	t.Helper()
	user, e := name.Name(l.user)
	if e != api.OK {
		t.Fatal(l, e)
	}
	a := digest.Answer{User: l.user, Realm: l.realm, Nonce: l.nonce, URI: l.uri, Cnonce: "c", NC: l.count}
	b := g.Hands().Box
	a.Proof = proof.Response(b, proof.HA1(b, user, l.realm, l.pass), "CONNECT", a)
	text, e := a.Text()
	if e != api.OK {
		t.Fatal(l, e)
	}
	return text
}

// field returns the field.
func (l login) field(t *testing.T, g *gate.Gate) string {
	t.Helper()
	return "Proxy-Authorization: " + l.header(t, g)
}

// annAt is the login of ann for a target, with a nonce.
func annAt(target, nonce string) login {
	return login{realm: "t", user: "ann", pass: "pencil", nonce: nonce, uri: target, count: 1}
}

// challenge has the gate issue a nonce for a draw, and returns it.
func challenge(t *testing.T, g *gate.Gate, conn int, d string) string {
	t.Helper()
	draw(t, g, d)
	nonce := fmt.Sprintf("%s.%016x", d, g.Hands().Nonces.Serial()+1)
	view, _ := g.Look(conn)
	sends(t, g, conn, ask, connect("web:80"), challenged(view.Tenant, nonce, false))
	return nonce
}

// What is not exactly one request for a tunnel is answered by 400, and nothing else happens.
func TestP25_1AskForm(t *testing.T) {
	many := slices.Repeat([]string{"A: b"}, 25)
	for _, symbolic := range []bool{false, true} {
		c := config()
		c.Symbolic = symbolic
		g := lay(t, c)
		conn := arrive(t, g, "s", "t")
		draw(t, g, "d")
		for _, body := range []string{
			"", "\r\n\r\n", "x", "CONNECT", "CONNECT web:80 HTTP/1.1", "CONNECT web:80 HTTP/1.1\r\n", "CONNECT web:80 HTTP/1.1\n\n",
			connect("web:80") + " ", connect("web:80") + connect("web:80"), " " + connect("web:80"), "\r\n" + connect("web:80"),
			strings.Replace(connect("web:80"), "CONNECT", "GET", 1), strings.Replace(connect("web:80"), "CONNECT", "connect", 1), strings.Replace(connect("web:80"), "CONNECT", "CONNECTS", 1),
			strings.Replace(connect("web:80"), "1.1", "1.0", 1),
			connect("web"), connect("web:"), connect(":80"), connect("web:0"), connect("web:080"), connect("web:65536"), connect("/"), connect("http://web:80"), connect("[::1]:80"), connect("*"),
			connect(strings.Repeat("h", 33) + ":80"),
			connect("web:80", "bad field"), connect("web:80", ": x"), connect("web:80", "A: \x01"), connect("web:80", many...),
			connect("web", annAt("web", "x").field(t, g)),
			"HTTP/1.1 200 OK\r\n\r\n",
		} {
			before := all(g)
			sends(t, g, conn, ask, body, badRequest)
			if all(g) != before {
				t.Errorf("%q changes something", body)
			}
		}
		sends(t, g, conn, ask, connect("web:80", many[:24]...), challenged("t", "d.0000000000000001", false))
	}
}

// Without the field the client is challenged, which is no attempt.
func TestP25_1AskChallenge(t *testing.T) {
	for _, fields := range [][]string{nil, {"Host: web"}, {"X-Role: dev"}, {"Authorization: Digest x=y"}, {"Proxy-Authorizatio: x"}, {"Proxy-Authenticate: x"}} {
		for _, tenant := range []string{"t", "none"} {
			g := lay(t, config())
			conn := arrive(t, g, "s", tenant)
			draw(t, g, "d", "e")
			logs(t, g, func() {
				sends(t, g, conn, ask, connect("web:80", fields...), challenged(tenant, "d.0000000000000001", false))
				sends(t, g, conn, ask, connect("bad:1", fields...), challenged(tenant, "e.0000000000000002", false))
				sends(t, g, conn, ask, connect("bad:1", fields...), unavailable)
			})
			looks(t, g, conn, gate.View{Source: "s", State: isKnown, Tenant: tenant})
			if fails(g, "s") != -1 || g.Checks() != 0 || g.Hands().Users.Reads() != 0 || g.Draws() != 0 || g.Hands().Nonces.Len() != 2 {
				t.Error(all(g))
			}
		}
	}
}

// A draw that no nonce can have is taken, and the client must come again.
func TestP25_1AskUnavailable(t *testing.T) {
	for _, d := range []string{"", "a,b", "\xff", strings.Repeat("d", 41)} {
		g := lay(t, config())
		conn := arrive(t, g, "s", "t")
		draw(t, g, d, "e")
		sends(t, g, conn, ask, connect("web:80"), unavailable)
		sends(t, g, conn, ask, connect("web:80"), challenged("t", "e.0000000000000001", false))
		draw(t, g, "e")
		sends(t, g, conn, ask, connect("web:80"), unavailable)
		if g.Draws() != 0 {
			t.Error(g.Draws())
		}
	}
	g := lay(t, config())
	conn := arrive(t, g, "s", "t")
	g.Hands().Nonces.Issue("d", 5)
	draw(t, g, "e", "f")
	sends(t, g, conn, ask, connect("web:80"), unavailable) // the store's time is a later one
	tick(t, g, 5)
	sends(t, g, conn, ask, connect("web:80"), challenged("t", "f.0000000000000002", false))
}

// The role is the value of the first field X-Role; without one it is the user's first.
func TestP25_1AskEnter(t *testing.T) {
	for _, c := range []struct {
		tenant, user, pass, target string
		fields                     []string
		role                       string
		gen                        uint64
		event                      string // what follows
		want                       said
		state                      int
	}{
		{"t", "ann", "pencil", "web:80", nil, "dev", 3, "open 1 t 616e6e dev web:80", wentWell, isOpen},
		{"t", "a\u00adnn", "pencil", "web:80", nil, "dev", 3, "open 1 t 616e6e dev web:80", wentWell, isOpen},
		{"t", "ann", "pencil", "web:80", []string{"X-Role: dev"}, "dev", 3, "open 1 t 616e6e dev web:80", wentWell, isOpen},
		{"t", "ann", "pencil", "web:80", []string{"x-rOLE:dev", "X-Role: ops"}, "dev", 3, "open 1 t 616e6e dev web:80", wentWell, isOpen},
		{"t", "ann", "pencil", "web:80", []string{"X-Role:"}, "dev", 3, "open 1 t 616e6e dev web:80", wentWell, isOpen},
		{"t", "ann", "pencil", "web:80", []string{"X-Role:", "X-Role: ops"}, "dev", 3, "open 1 t 616e6e dev web:80", wentWell, isOpen},
		{"t", "ann", "pencil", "db:99", []string{"X-Role: ops"}, "ops", 3, "open 1 t 616e6e ops db:99", wentWell, isOpen},
		{"u", "ann", "other", "web:80", nil, "dev", 9, "deny 1 u 616e6e dev web:80", forbidden, isIn},
		{"t", "ann", "pencil", "web:81", nil, "dev", 3, "deny 1 t 616e6e dev web:81", forbidden, isIn},
		{"t", "ann", "pencil", "web:80", []string{"X-Role: ops"}, "ops", 3, "deny 1 t 616e6e ops web:80", forbidden, isIn},
		{"t", "ann", "pencil", "web:80", []string{"X-Role: root"}, "root", 3, "fail 1 16", forbidden, isKnown},
		{"t", "ann", "pencil", "web:80", []string{"X-Role: a b"}, "a b", 3, "fail 1 16", forbidden, isKnown},
		{"t", "bob", "secret", "web:80", nil, "-", 4, "fail 1 16", forbidden, isKnown},
	} {
		for _, symbolic := range []bool{false, true} {
			config := config()
			config.Symbolic = symbolic
			g := lay(t, config)
			tick(t, g, 7)
			conn := arrive(t, g, "s", c.tenant)
			l := login{c.tenant, c.user, c.pass, challenge(t, g, conn, "d"), c.target, 1}
			reads := g.Hands().Users.Reads()
			user, _ := name.Name(c.user)
			text := connect(c.target, append(c.fields, l.field(t, g))...)
			logs(t, g, func() { sends(t, g, conn, ask, text, c.want) }, fmt.Sprintf("enter 1 %s %x %s", c.tenant, user, c.role), c.event)
			want := gate.View{Source: "s", State: c.state, Tenant: c.tenant}
			if c.state != isKnown {
				want.Who, want.Gen = api.Who{Tenant: c.tenant, User: user, Role: c.role}, c.gen
			}
			if c.state == isOpen {
				want.Target = c.target
			}
			looks(t, g, conn, want)
			if fails(g, "s") != -1 || g.Checks() != 1 || g.Hands().Users.Reads() != reads+1 || g.Hands().Tickets.Serial() != 0 {
				t.Error(c, all(g))
			}
		}
	}
}

// The tunnel is one as by Open, and a user who is in may open one.
func TestP25_1AskTunnel(t *testing.T) {
	g := lay(t, config())
	conn := arrive(t, g, "s", "t")
	text := connect("web:81", annAt("web:81", challenge(t, g, conn, "d")).field(t, g))
	sends(t, g, conn, ask, text, forbidden)
	sends(t, g, conn, open, "web:80", said{opened, "web:80"})
	conn = arrive(t, g, "s", "t")
	text = connect("web:80", annAt("web:80", challenge(t, g, conn, "e")).field(t, g))
	sends(t, g, conn, ask, text, wentWell)
	sends(t, g, conn, data, "hello")
	r := g.Step(gate.Input{Kind: gate.Drain, Conn: conn, Ticks: 9})
	if len(r.Out) != 1 || string(r.Out[0].Data) != "hello" || r.Out[0].To != 1 {
		t.Error(r)
	}
	sends(t, g, conn, ask, text, number(api.ErrState))
}

// A nonce serves once for each count, on any connection of the tenant.
func TestP25_1AskCounts(t *testing.T) {
	g := lay(t, config())
	conn := arrive(t, g, "s", "t")
	l := annAt("web:80", challenge(t, g, conn, "d"))
	for i, c := range []struct {
		count uint32
		errno api.Errno
	}{{0, api.ErrArg}, {1, api.OK}, {1, api.ErrSeen}, {5, api.OK}, {5, api.ErrSeen}, {2, api.ErrSeen}, {6, api.OK}} {
		l.count = c.count
		conn := arrive(t, g, "s", "t")
		if c.errno == api.OK {
			sends(t, g, conn, ask, connect("web:80", l.field(t, g)), wentWell)
		} else {
			draw(t, g, fmt.Sprint("e", i))
			nonce := fmt.Sprintf("e%d.%016x", i, g.Hands().Nonces.Serial()+1)
			logs(t, g, func() {
				sends(t, g, conn, ask, connect("web:80", l.field(t, g)), challenged("t", nonce, false))
			}, fmt.Sprint("fail ", conn, " ", int(c.errno)))
			if fails(g, "s") != 1 {
				t.Error(c, fails(g, "s"))
			}
			admin(t, g, "source-clear s", "ok")
		}
		g.Step(gate.Input{Kind: gate.Hang, Conn: conn})
	}
}

// After a failure the client is challenged again. Only if nothing but the nonce was wrong it is told so, and then no failure is counted.
func TestP25_1AskErrors(t *testing.T) {
	const target = "web:80"
	for what, c := range map[string]struct {
		field   func(g *gate.Gate, nonce string) string
		errno   api.Errno
		checked bool
		stale   bool
	}{
		"empty":            {func(*gate.Gate, string) string { return "" }, api.ErrForm, false, false},
		"no Digest":        {func(*gate.Gate, string) string { return "Basic YTpi" }, api.ErrForm, false, false},
		"lacks parameters": {func(_ *gate.Gate, n string) string { return `Digest realm="t", nonce="` + n + `"` }, api.ErrNone, false, false},
		"twice":            {func(*gate.Gate, string) string { return "Digest a=b, a=b" }, api.ErrExists, false, false},
		"too many":         {func(*gate.Gate, string) string { return "Digest a=b" + strings.Repeat(", a=b", 20) }, api.ErrLong, false, false},
		"other realm":      {func(g *gate.Gate, n string) string { return login{"u", "ann", "other", n, target, 1}.header(t, g) }, api.ErrForm, false, false},
		"other target":     {func(g *gate.Gate, n string) string { return annAt("web:81", n).header(t, g) }, api.ErrForm, false, false},
		"wrong password":   {func(g *gate.Gate, n string) string { return login{"t", "ann", "pen", n, target, 1}.header(t, g) }, api.ErrProof, true, false},
		"nobody":           {func(g *gate.Gate, n string) string { return login{"t", "nobody", "pencil", n, target, 1}.header(t, g) }, api.ErrProof, true, false},
		"revoked":          {func(g *gate.Gate, n string) string { return login{"t", "eve", "apple", n, target, 1}.header(t, g) }, api.ErrProof, true, false},
		"wrong and stale":  {func(g *gate.Gate, _ string) string { return login{"t", "ann", "pen", "x", target, 1}.header(t, g) }, api.ErrProof, true, false},
		"count 0":          {func(g *gate.Gate, n string) string { return login{"t", "ann", "pencil", n, target, 0}.header(t, g) }, api.ErrArg, true, false},
		"unknown nonce":    {func(g *gate.Gate, _ string) string { return annAt(target, "x").header(t, g) }, api.ErrNone, true, true},
		"old nonce":        {func(g *gate.Gate, n string) string { tick(t, g, 51); return annAt(target, n).header(t, g) }, api.ErrLate, true, true},
		"spent": {func(g *gate.Gate, n string) string {
			if e := g.Hands().Nonces.Spend(n, g.Now()); e != api.OK {
				t.Error(e)
			}
			return annAt(target, n).header(t, g)
		}, api.ErrSeen, true, false},
	} {
		for _, draws := range [][]string{{"e"}, nil} {
			g := lay(t, config())
			conn := arrive(t, g, "s", "t")
			value := c.field(g, challenge(t, g, conn, "d"))
			want := unavailable
			if draws != nil {
				want = challenged("t", "e.0000000000000002", c.stale)
			}
			draw(t, g, draws...)
			logs(t, g, func() {
				sends(t, g, conn, ask, connect(target, "X-Role: dev", "Proxy-Authorization: "+value, "X-Role: ops"), want)
			}, fmt.Sprint("fail ", conn, " ", int(c.errno)))
			looks(t, g, conn, gate.View{Source: "s", State: isKnown, Tenant: "t"})
			counted, checks := 0, uint64(0)
			if c.checked {
				checks = 1
				if !c.stale {
					counted = 1
				}
			}
			if fails(g, "s") != counted || g.Checks() != checks || g.Draws() != 0 {
				t.Error(what, fails(g, "s"), g.Checks(), g.Draws())
			}
		}
	}
}

// The first field with that name counts, in any letter case.
func TestP25_1AskFirst(t *testing.T) {
	g := lay(t, config())
	conn := arrive(t, g, "s", "t")
	right := annAt("web:80", challenge(t, g, conn, "d")).header(t, g)
	draw(t, g, "e")
	logs(t, g, func() {
		sends(t, g, conn, ask, connect("web:80", "Proxy-Authorization: x", "Proxy-Authorization: "+right), challenged("t", "e.0000000000000002", false))
	}, fmt.Sprint("fail ", conn, " 4"))
	sends(t, g, conn, ask, connect("web:80", "proxy-AUTHORIZATION:"+right, "Proxy-Authorization: x"), wentWell)
}

// The method and the target are those of the response.
func TestP25_1AskBound(t *testing.T) {
	g := lay(t, config())
	conn := arrive(t, g, "s", "t")
	l := annAt("web:80", challenge(t, g, conn, "d"))
	b := g.Hands().Box
	a := digest.Answer{User: l.user, Realm: l.realm, Nonce: l.nonce, URI: l.uri, Cnonce: "c", NC: 1}
	a.Proof = proof.Response(b, proof.HA1(b, l.user, l.realm, l.pass), "GET", a)
	text, _ := a.Text()
	draw(t, g, "e")
	sends(t, g, conn, ask, connect("web:80", "Proxy-Authorization: "+text), challenged("t", "e.0000000000000002", false))
	if fails(g, "s") != 1 {
		t.Error(fails(g, "s"))
	}
	sends(t, g, conn, ask, connect("web:80", l.field(t, g)), tooMany)
}

// A client that is stale takes the new nonce, and is let in though it has not waited.
func TestP25_1AskStale(t *testing.T) {
	g := lay(t, config())
	conn := arrive(t, g, "s", "t")
	old := challenge(t, g, conn, "d")
	tick(t, g, 51)
	draw(t, g, "e")
	sends(t, g, conn, ask, connect("web:80", annAt("web:80", old).field(t, g)), challenged("t", "e.0000000000000002", true))
	sends(t, g, conn, ask, connect("web:80", annAt("web:80", "e.0000000000000002").field(t, g)), wentWell)
	if g.Checks() != 2 {
		t.Error(g.Checks())
	}
}
