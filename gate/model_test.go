package gate_test

import (
	"encoding/binary"
	"fmt"
	"math/rand"
	"reflect"
	"slices"
	"strings"
	"testing"

	"ostiary/api"
	"ostiary/box"
	"ostiary/cred"
	"ostiary/digest"
	"ostiary/gate"
	"ostiary/guard"
	"ostiary/head"
	"ostiary/name"
	"ostiary/nonce"
	"ostiary/order"
	"ostiary/proof"
	"ostiary/quest"
	"ostiary/ring"
	"ostiary/roll"
	"ostiary/rule"
	"ostiary/scram"
	"ostiary/talk"
	"ostiary/ticket"
	"ostiary/trace"
)

// line is a connection of the model.
type line struct {
	view     gate.View
	buffer   []byte // what came and is no whole frame yet
	waiting  []byte // what waits in the tunnel
	exchange *talk.Talk
}

// model is a gate written row by row after the chapter's tables, with as few shared ways as possible.
type model struct {
	c      gate.Config
	h      order.Hands
	now    uint64
	log    *trace.Trace
	draws  []string
	lines  map[int]*line
	last   int
	checks uint64
	out    []gate.Output
}

func newModel(c gate.Config) *model {
	m := &model{c: c, lines: map[int]*line{}}
	m.h.Box, m.h.Users = box.New(c.Symbolic), cred.New()
	m.h.Nonces, _ = nonce.New(c.Nonces)
	m.h.Guard, _ = guard.New(c.Guard)
	m.h.Ring, _ = ring.New(m.h.Box, c.Master, c.Keys)
	m.h.Tickets, _ = ticket.NewDesk(m.h.Ring, c.Life)
	m.h.Policy, _ = rule.New()
	m.log, _ = trace.New(256)
	return m
}

func (m *model) event(kind string, conn int, text any) {
	m.log.Add(m.now, kind, conn, fmt.Sprint(text))
}

func (m *model) put(conn, kind int, body string) {
	p := binary.BigEndian.AppendUint16([]byte{byte(kind)}, uint16(len(body)))
	m.out = append(m.out, gate.Output{Conn: conn, Data: append(p, body...)})
}

func (m *model) fault(conn int, e api.Errno) {
	m.put(conn, 15, string([]byte{byte(e)}))
}

func (m *model) step(in gate.Input) gate.Result {
	m.out = nil
	r := gate.Result{}
	l := m.lines[in.Conn]
	switch {
	case in.Kind == gate.Dial:
		if _, e := name.Name(in.Source); e != api.OK || len(in.Source) > 32 {
			r.Code = api.ErrForm
		} else if len(m.lines) == m.c.Conns {
			r.Code = api.ErrFull
		} else {
			m.last++
			r.Conn = m.last
			m.lines[m.last] = &line{view: gate.View{Source: in.Source}}
			m.event("dial", m.last, in.Source)
		}
	case in.Kind == gate.Tick:
		m.now = min(m.now+in.Ticks, 1<<40)
	case in.Kind == gate.Draw && len(m.draws) == 16:
		r.Code = api.ErrFull
	case in.Kind == gate.Draw:
		m.draws = append(m.draws, in.Text)
	case in.Kind == gate.Admin:
		r.Text, r.Code = m.h.Do(in.Text, m.now)
		if c, e := order.Parse(in.Text); e == api.OK {
			m.event("admin", 0, c.Verb)
		}
	case in.Kind < 1 || in.Kind > 8:
		r.Code = api.ErrArg
	case l == nil:
		r.Code = api.ErrNone
	case in.Kind == gate.Hang:
		delete(m.lines, in.Conn)
		m.event("hang", in.Conn, "")
	case in.Kind == gate.Bytes:
		l.buffer = append(l.buffer, in.Data...)
		m.take(in.Conn, l)
	case l.view.State != 4:
		r.Code = api.ErrState
	case in.Kind == gate.Drain:
		n := min(in.Ticks, uint64(len(l.waiting)))
		if n > 0 {
			m.out = append(m.out, gate.Output{Conn: in.Conn, To: 1, Data: slices.Clone(l.waiting[:n])})
		}
		l.waiting = l.waiting[n:]
	case in.Kind == gate.Up:
		for part := range slices.Chunk(in.Data[:min(len(in.Data), m.c.Room)], 512) {
			m.put(in.Conn, 13, string(part))
		}
	}
	r.Out = m.out
	return r
}

// take takes frames from the buffer of a connection.
func (m *model) take(conn int, l *line) {
	for m.lines[conn] == l && len(l.buffer) >= 3 {
		kind, size := int(l.buffer[0]), int(binary.BigEndian.Uint16(l.buffer[1:]))
		e := api.OK
		if kind < 1 || kind > 15 {
			e = api.ErrArg
		} else if size > 2048 {
			e = api.ErrLong
		}
		if e != api.OK {
			m.fault(conn, e)
			m.event("shut", conn, "")
			delete(m.lines, conn)
			return
		}
		if len(l.buffer) < 3+size {
			return
		}
		body := string(l.buffer[3 : 3+size])
		l.buffer = l.buffer[3+size:]
		states := []int{0, 0, 1, 2, 1, 1, 3, 4}
		switch {
		case kind == 8:
			m.put(conn, 12+2, "")
			m.event("close", conn, "")
			delete(m.lines, conn)
		case kind > 8:
			m.fault(conn, api.ErrForm)
		case l.view.State != states[kind]:
			m.fault(conn, api.ErrState)
		default:
			m.frame(conn, l, kind, body)
		}
	}
}

func (m *model) frame(conn int, l *line, kind int, body string) {
	if kind == 2 || kind == 3 || kind == 5 {
		if e := m.h.Guard.Enter(l.view.Source, m.now); e != api.OK {
			m.event("locked", conn, int(e))
			m.fault(conn, e)
			l.view.State = 1
			return
		}
	}
	o := talk.Office{Box: m.h.Box, Users: m.h.Users, Nonces: m.h.Nonces, Iter: m.c.Iter}
	switch kind {
	case 1:
		if !name.Plain(body) {
			m.fault(conn, api.ErrSign)
			return
		}
		l.view.Tenant, l.view.State = body, 1
		m.event("hello", conn, body)
	case 2:
		if len(m.draws) == 0 {
			m.fault(conn, api.ErrFull)
			return
		}
		l.exchange, _ = talk.New(o, l.view.Tenant)
		reply, e := l.exchange.First(body, m.draws[0], m.now)
		m.draws = m.draws[1:]
		m.put(conn, 9, reply)
		if e == api.OK {
			l.view.State = 2
		} else {
			m.event("fail", conn, int(e))
		}
	case 3:
		reply, e := l.exchange.Final(body, m.now)
		m.put(conn, 9, reply)
		if l.exchange.Checked() {
			m.checks++
		}
		if e != api.OK {
			l.view.State = 1
			if l.exchange.Checked() {
				m.h.Guard.Fail(l.view.Source, m.now)
			}
			m.event("fail", conn, int(e))
			return
		}
		u, role, _ := l.exchange.Who()
		m.in(conn, l, "enter", u, role)
		if slices.Contains(u.Roles, l.view.Who.Role) {
			if text, _, e := m.h.Tickets.Mint(l.view.Who, u.Gen, m.now); e == api.OK {
				m.put(conn, 11, text)
			}
		}
	case 4:
		m.request(conn, l, o, body)
	case 5:
		x, e := m.h.Tickets.Open(body, m.now)
		if w := x.Who; e == api.OK && !(w.Tenant == l.view.Tenant && m.h.Users.Current(w.Tenant, w.User, x.Gen) && m.h.Users.Has(w.Tenant, w.User, w.Role)) {
			e = api.ErrGone
		}
		if e == api.OK {
			m.in(conn, l, "resume", cred.Cred{Tenant: x.Who.Tenant, User: x.Who.User, Gen: x.Gen}, x.Who.Role)
			return
		}
		m.event("fail", conn, int(e))
		if e == api.ErrForm || e == api.ErrLong || e == api.ErrProof {
			m.h.Guard.Fail(l.view.Source, m.now)
		}
		m.fault(conn, api.ErrDenied)
	case 6:
		if e := m.open(conn, l, body); e != api.OK {
			m.fault(conn, e)
		} else {
			m.put(conn, 12, body)
		}
	case 7:
		l.waiting = append(l.waiting, body...)
		if len(l.waiting) > m.c.Room {
			m.fault(conn, api.ErrFull)
			m.event("shut", conn, "")
			delete(m.lines, conn)
		}
	}
}

func (m *model) in(conn int, l *line, kind string, u cred.Cred, role string) {
	if role == "" && len(u.Roles) > 0 {
		role = u.Roles[0]
	}
	m.h.Guard.Good(l.view.Source, m.now)
	l.view.State, l.view.Gen, l.view.Who = 3, u.Gen, api.Who{Tenant: u.Tenant, User: u.User, Role: role}
	if role == "" {
		role = "-"
	}
	m.event(kind, conn, fmt.Sprintf("%s %x %s", u.Tenant, u.User, role))
}

func (m *model) open(conn int, l *line, body string) api.Errno {
	w := l.view.Who
	host, port, ok := head.Split(body)
	text := fmt.Sprintf("%s %x %s %s", w.Tenant, w.User, w.Role, body)
	switch {
	case !ok:
		return api.ErrForm
	case !m.h.Users.Current(w.Tenant, w.User, l.view.Gen) || !m.h.Users.Has(w.Tenant, w.User, w.Role):
		l.view = gate.View{Source: l.view.Source, State: 1, Tenant: l.view.Tenant}
		m.event("fail", conn, 16)
		return api.ErrGone
	case !m.h.Policy.May(w.Role, w.Tenant, host, port):
		m.event("deny", conn, text)
		return api.ErrDenied
	}
	l.view.State, l.view.Target, l.waiting = 4, body, nil
	m.event("open", conn, text)
	return api.OK
}

func (m *model) request(conn int, l *line, o talk.Office, body string) {
	reply := func(line, field string) { m.put(conn, 10, "HTTP/1.1 "+line+"\r\n"+field+"\r\n") }
	q, _ := quest.New(o, l.view.Tenant)
	challenge := func(stale bool) {
		text, e := "", api.ErrFull
		if len(m.draws) > 0 {
			text, e = q.Challenge(m.draws[0], stale, m.now)
			m.draws = m.draws[1:]
		}
		if e != api.OK {
			reply("503 Service Unavailable", "")
		} else {
			reply("407 Proxy Authentication Required", "Proxy-Authenticate: "+text+"\r\n")
		}
	}
	r, n, e := head.ParseRequest([]byte(body))
	if _, _, ok := head.Split(r.Target); e != api.OK || n != len(body) || r.Method != "CONNECT" || !ok {
		reply("400 Bad Request", "")
		return
	}
	field := slices.Collect(head.Get(r.Fields, "proxy-authorization"))
	if len(field) == 0 {
		challenge(false)
		return
	}
	if e := m.h.Guard.Enter(l.view.Source, m.now); e != api.OK {
		m.event("locked", conn, int(e))
		reply("429 Too Many Requests", "")
		return
	}
	x, e := q.Answer(quest.Ask{Method: r.Method, Target: r.Target, Header: field[0]}, m.now)
	m.checks += q.Checks()
	if e == api.OK {
		role := append(slices.Collect(head.Get(r.Fields, "x-role")), "")[0]
		m.in(conn, l, "enter", x.User, role)
		if m.open(conn, l, r.Target) == api.OK {
			reply("200 OK", "")
		} else {
			reply("403 Forbidden", "")
		}
		return
	}
	m.event("fail", conn, int(e))
	stale := q.Checks() == 1 && (e == api.ErrNone || e == api.ErrLate)
	if q.Checks() == 1 && !stale {
		m.h.Guard.Fail(l.view.Source, m.now)
	}
	challenge(stale)
}

// seen tells what can be seen of the model, as all does of a gate.
func (m *model) seen() string {
	var out strings.Builder
	h := &m.h
	mark, marked := h.Nonces.Mark()
	fmt.Fprintln(&out, m.now, m.checks, len(m.draws), roll.Dump(h.Users), h.Users.Reads())
	fmt.Fprintln(&out, slices.Collect(h.Nonces.Entries()), mark, marked, h.Nonces.Serial())
	fmt.Fprintln(&out, slices.Collect(h.Guard.Entries()), slices.Collect(h.Ring.Epochs()))
	fmt.Fprintln(&out, slices.Collect(h.Tickets.Revoked()), h.Tickets.Serial(), h.Policy.Text(), h.Box.Len(), h.Box.Full())
	for n := 1; n <= m.last; n++ {
		if l := m.lines[n]; l != nil {
			fmt.Fprintf(&out, "%d %+v %d\n", n, l.view, 0)
		}
	}
	fmt.Fprintln(&out, m.log.Last(), m.log.Chain(), slices.Collect(m.log.Since(max(m.log.Last(), 5)-5)))
	return out.String()
}

// difference returns the lines that differ.
func difference(got, want string) string {
	x, y := strings.Split(got, "\n"), strings.Split(want, "\n")
	for i := range min(len(x), len(y)) {
		if x[i] != y[i] {
			return fmt.Sprintf("%s\nnot\n%s", x[i], y[i])
		}
	}
	return got + "\nnot\n" + want
}

// client is what a client remembers: what it sent first, and what the gate has sent of each kind.
type client struct {
	user, pass, head, bare string
	heard                  map[byte]string
}

// player plays random inputs.
type player struct {
	t       *testing.T
	r       *rand.Rand
	g       *gate.Gate
	m       *model
	clients map[int]*client
	tickets []string
	nonces  []string
	asked   []string // the requests so far
	draws   int
}

func (p *player) one(l ...string) string { return l[p.r.Intn(len(l))] }

// both computes something with both boxes, so that they stay alike.
func (p *player) both(compute func(b *box.Box) string) string {
	x, y := compute(p.g.Hands().Box), compute(p.m.h.Box)
	if x != y {
		p.t.Fatal("the boxes differ")
	}
	return x
}

// first returns a client first, and remembers it.
func (p *player) first(c *client) string {
	who := [][2]string{{"ann", "pencil"}, {"ann", "pencil"}, {"ann", "pencil"}, {"ann", "wrong"}, {"bob", "secret"}, {"eve", "apple"}, {"nobody", "x"}, {"a\u00adnn", "pencil"}}[p.r.Intn(8)]
	c.user, c.pass = who[0], who[1]
	c.head = p.one("n,,", "n,,", "n,a=dev,", "y,a=ops,", "n,a=root,", "n,a=a b,", "p=x,,", "n,a="+strings.Repeat("r", 200)+",")
	c.bare = "n=" + c.user + ",r=" + p.one("abc", "abc", "abc", "x", "y", "z", strings.Repeat("r", 60), "a,x=1", "")
	return c.head + c.bare
}

// final returns a client final for the challenge that was heard last.
func (p *player) final(c *client) string {
	x, e := scram.ParseChallenge(c.heard[9])
	if e != api.OK || p.r.Intn(10) == 0 {
		return p.one("", "c=biws", "c=biws,r=abc,p="+strings.Repeat("A", 43)+"=", c.heard[9])
	}
	f := scram.Final{Head: c.head, Nonce: x.Nonce, Proof: make([]byte, 32)}
	if p.r.Intn(10) == 0 {
		f.Head = p.one("n,,", "y,,")
	}
	without, _ := f.Without()
	f.Proof = []byte(p.both(func(b *box.Box) string {
		sum, _, _ := proof.Client(b, c.pass, x.Salt, x.Iter, proof.Message(c.bare, c.heard[9], without))
		return string(sum)
	}))
	text, _ := f.Text()
	return text
}

// request returns a request, which often answers the challenge that was heard last.
func (p *player) request(c *client, tenant string) string {
	if n := len(p.asked); n > 0 && p.r.Intn(5) == 0 {
		return p.asked[max(0, n-1-p.r.Intn(4))] // a replay
	}
	target := p.one("web:80", "web:80", "web:80", "db:99", "bad:80", "web")
	var fields []string
	if c.heard[10] != "" && p.r.Intn(6) > 0 {
		a, _, _ := head.ParseAnswer([]byte(c.heard[10]))
		value, _ := head.First(a.Fields, "Proxy-Authenticate")
		x, e := digest.ParseChallenge(value)
		if e == api.OK {
			p.nonces = append(p.nonces, x.Nonce)
		}
		if n := len(p.nonces); n > 0 && (e != api.OK || p.r.Intn(3) == 0) {
			x.Nonce = p.nonces[max(0, n-1-p.r.Intn(4))]
		}
		l := digest.Answer{User: p.one("ann", "ann", "ann", "ann", "ann", "bob", "eve", "nobody"), Realm: p.one(tenant, tenant, tenant, tenant, "u"), Nonce: x.Nonce, URI: p.one(target, target, target, target, "x:1"), Cnonce: "c", NC: 1 + uint32(p.r.Intn(4))/3*uint32(p.r.Intn(5)-1)}
		pass := map[string]string{"ann": "pencil", "bob": "secret", "eve": "apple"}[l.User]
		pass = p.one(pass, pass, pass, pass, pass, "wrong")
		l.Proof = []byte(p.both(func(b *box.Box) string {
			return string(proof.Response(b, proof.HA1(b, l.User, l.Realm, pass), "CONNECT", l))
		}))
		text, _ := l.Text()
		fields = append(fields, "Proxy-Authorization: "+p.one(text, text, text, text, text, text, "x", ""))
	}
	if p.r.Intn(2) == 0 {
		fields = append(fields, "X-Role: "+p.one("dev", "ops", "root", ""))
	}
	p.asked = append(p.asked, connect(target, fields...))
	return connect(target, fields...)
}

// show returns a ticket, mostly one that was issued.
func (p *player) show() string {
	if len(p.tickets) == 0 || p.r.Intn(4) == 0 {
		return p.one("", "a.b", "AQ."+strings.Repeat("A", 43))
	}
	text := p.tickets[p.r.Intn(len(p.tickets))]
	if p.r.Intn(6) == 0 {
		return "A" + text[1:]
	}
	return text
}

// frame returns a frame that mostly fits the state of a connection.
func (p *player) frame(conn int) []byte {
	v, _ := p.g.Look(conn)
	c := p.clients[conn]
	kind := []byte{hello, []byte{first, first, ask, ask, show}[p.r.Intn(5)], final, open, data}[v.State]
	if p.r.Intn(12) == 0 {
		kind = byte(1 + p.r.Intn(15))
	}
	body := ""
	switch kind {
	case hello:
		body = p.one("t", "t", "t", "t", "u", "none", "T", "")
	case first:
		body = p.first(c)
	case final:
		body = p.final(c)
	case ask:
		body = p.request(c, v.Tenant)
	case show:
		body = p.show()
	case open:
		body = p.one("web:80", "db:99", "web:81", "bad:80", "web", "")
	case data:
		body = p.one("", "a", "hello", strings.Repeat("x", 10))
	}
	return packed(p.t, kind, body)
}

// bytes returns what a client sends: some frames, seldom a broken one, and sometimes the last bytes come in the next input.
func (p *player) bytes(conn int) []byte {
	out := p.frame(conn)
	switch p.r.Intn(30) {
	case 0:
		out = append(out, p.frame(conn)...)
	case 1:
		out = append(out, byte(p.r.Intn(256)), byte(p.r.Intn(16)), 0)
	case 2:
		out = append(out, packed(p.t, bye, "")...)
	}
	return out
}

// input returns the next input.
func (p *player) input() gate.Input {
	conn := 1 + p.r.Intn(p.m.last+2)
	if live := slices.Collect(p.g.Conns()); len(live) > 0 && p.r.Intn(20) > 0 {
		conn = live[p.r.Intn(len(live))]
	}
	switch n := p.r.Intn(100); {
	case n < 8:
		return gate.Input{Kind: gate.Dial, Source: p.one("a", "b", "c", "d", "")}
	case n < 9:
		return gate.Input{Kind: gate.Hang, Conn: conn}
	case n < 22:
		return gate.Input{Kind: gate.Tick, Ticks: uint64(p.r.Intn(6))}
	case n < 34:
		p.draws++
		return gate.Input{Kind: gate.Draw, Text: p.one(fmt.Sprint("d", p.draws), fmt.Sprint("d", p.draws), fmt.Sprint("d", p.draws), fmt.Sprint("d", p.draws), "same", "")}
	case n < 38:
		return gate.Input{Kind: gate.Admin, Text: p.one("sweep", "count", "key-rotate", "key-retire 1", "ticket-revoke 1", "restore t ann", "source-clear a", "revoke t bob", "restore t eve", "ungrant t ann ops", "show-user t ann", "help", "grant t bob ops", `policy "allow * * * *"`)}
	case n < 43:
		return gate.Input{Kind: gate.Drain, Conn: conn, Ticks: uint64(p.r.Intn(8))}
	case n < 47:
		return gate.Input{Kind: gate.Up, Conn: conn, Data: []byte(strings.Repeat("u", p.r.Intn(14)))}
	case n < 48:
		return gate.Input{Kind: p.r.Intn(12), Conn: conn}
	}
	if p.clients[conn] == nil {
		return gate.Input{Kind: gate.Bytes, Conn: conn}
	}
	return gate.Input{Kind: gate.Bytes, Conn: conn, Data: p.bytes(conn)}
}

// hear remembers what the gate has sent.
func (p *player) hear(r gate.Result) {
	for _, o := range r.Out {
		if c := p.clients[o.Conn]; o.To == 0 {
			c.heard[o.Data[0]] = string(o.Data[3:])
			if o.Data[0] == ticked {
				p.tickets = append(p.tickets, string(o.Data[3:]))
			}
		}
	}
}

// Random inputs: the gate and the model agree in everything that can be seen.
func TestP25_1Random(t *testing.T) {
	r := rand.New(rand.NewSource(25))
	kinds := map[string]int{}
	for round := range 120 {
		c := config()
		c.Conns, c.Symbolic = 1+r.Intn(4), round%3 == 0
		c.Guard.Room, c.Room, c.Nonces.Room = 2+r.Intn(3), 5+r.Intn(20), 2+r.Intn(8)
		c.Guard.Base, c.Guard.Most, c.Guard.Hold = 1, 1+uint64(r.Intn(8)), 1+uint64(r.Intn(50))
		p := &player{t: t, r: r, g: lay(t, c), m: newModel(c), clients: map[int]*client{}}
		for _, text := range setup {
			p.m.step(gate.Input{Kind: gate.Admin, Text: text})
		}
		for range 400 {
			in := p.input()
			kept := slices.Clone(in.Data)
			got, want := p.g.Step(in), p.m.step(in)
			if len(got.Out)+len(want.Out) == 0 {
				got.Out, want.Out = nil, nil
			}
			if !reflect.DeepEqual(got, want) || !slices.Equal(in.Data, kept) {
				t.Fatalf("%+v: %+v, not %+v", in, got, want)
			}
			if got, want := all(p.g), p.m.seen(); got != want {
				t.Fatalf("%+v: %s", in, difference(got, want))
			}
			if in.Kind == gate.Dial && got.Code == api.OK {
				p.clients[got.Conn] = &client{heard: map[byte]string{}}
			}
			p.hear(got)
		}
		for _, e := range since(p.g, 0) {
			kinds[e.kind]++
			if e.kind == "fail" || e.kind == "locked" {
				kinds[e.kind+" "+e.text]++
			}
		}
	}
	for _, kind := range []string{"admin", "close", "deny", "dial", "enter", "fail", "fail 4", "fail 6", "fail 7", "fail 9", "fail 10", "fail 13", "fail 15", "fail 16", "hang", "hello", "locked 8", "locked 11", "open", "resume", "shut"} {
		if kinds[kind] < 10 {
			t.Error(kind, "happened only", kinds[kind], "times")
		}
	}
}

// Bytes that nobody would send: the gate neither panics nor lets anybody in.
func TestP25_3Random(t *testing.T) {
	r := rand.New(rand.NewSource(253))
	for range 300 {
		g := lay(t, config())
		users := fmt.Sprint(slices.Collect(g.Hands().Users.Users("t")))
		for range 100 {
			p := make([]byte, r.Intn(40))
			r.Read(p)
			for i := range p {
				if r.Intn(2) == 0 {
					p[i] = byte(r.Intn(9))
				}
			}
			source := "s"
			if r.Intn(4) == 0 {
				source = string(p)
			}
			kind := 1 + r.Intn(7)
			if r.Intn(30) == 0 {
				kind = r.Int() - r.Int()
			}
			if kind == gate.Admin {
				continue
			}
			g.Step(gate.Input{Kind: kind, Conn: r.Intn(6) - 1, Source: source, Data: p, Text: string(p), Ticks: r.Uint64() >> r.Intn(64)})
			for n := range g.Conns() {
				if v, e := g.Look(n); e != api.OK || v.State > isAsked {
					t.Fatal(v, e)
				}
			}
		}
		if fmt.Sprint(slices.Collect(g.Hands().Users.Users("t"))) != users || g.Hands().Tickets.Serial() != 0 {
			t.Error("something has changed")
		}
	}
}
