package gate_test

import (
	"bytes"
	"fmt"
	"math"
	"reflect"
	"slices"
	"strings"
	"testing"

	"ostiary/api"
	"ostiary/frame"
	"ostiary/gate"
	"ostiary/guard"
	"ostiary/nonce"
	"ostiary/proof"
	"ostiary/roll"
	"ostiary/scram"
	"ostiary/trace"
)

// The kinds of frames, by the chapter's tables.
const (
	hello = 1
	first = 2
	final = 3
	ask   = 4
	show  = 5
	open  = 6
	data  = 7
	bye   = 8

	say    = 9
	answer = 10
	ticked = 11
	opened = 12
	sent   = 13
	closed = 14
	fault  = 15
)

// The states of a connection.
const (
	isFresh = 0
	isKnown = 1
	isAsked = 2
	isIn    = 3
	isOpen  = 4
)

// config is that of most tests.
func config() gate.Config {
	return gate.Config{
		Conns:  3,
		Nonces: nonce.Config{Room: 8, Window: 50},
		Guard:  guard.Config{Room: 3, Base: 2, Most: 50, Hold: 50},
		Master: []byte("m"),
		Keys:   2,
		Life:   20,
		Room:   10,
		Iter:   2,
	}
}

// made returns a new gate.
func made(t *testing.T, c gate.Config) *gate.Gate {
	t.Helper()
	g, e := gate.New(c)
	if g == nil || e != api.OK {
		t.Fatal(c, e)
	}
	return g
}

// setup is what the administrator of most tests says: ann has two roles, bob has none, and eve is revoked.
var setup = []string{
	"tenant-add t", "tenant-add u",
	"user-add t ann pencil 01 2", "grant t ann ops", "grant t ann dev",
	"user-add t bob secret 02 3",
	"user-add t eve apple 03 1", "grant t eve dev", "revoke t eve",
	"user-add u ann other 04 2", "grant u ann dev",
	`policy "deny * * bad* *\nallow dev t * 80\nallow ops * db 1-9999\n"`,
}

// lay returns a gate where all that is set up. Its trace is that of setup.
func lay(t *testing.T, c gate.Config) *gate.Gate {
	t.Helper()
	g := made(t, c)
	for _, line := range setup {
		admin(t, g, line, "ok")
	}
	return g
}

// admin has the administrator say a line.
func admin(t *testing.T, g *gate.Gate, line, want string) {
	t.Helper()
	if r := g.Step(gate.Input{Kind: gate.Admin, Text: line}); r.Code != api.OK || r.Text != want || r.Conn != 0 || len(r.Out) != 0 {
		t.Fatalf("%q: %v, not %q", line, r, want)
	}
}

// dial makes a connection.
func dial(t *testing.T, g *gate.Gate, source string) int {
	t.Helper()
	r := g.Step(gate.Input{Kind: gate.Dial, Source: source})
	if r.Code != api.OK || r.Conn == 0 || r.Text != "" || len(r.Out) != 0 {
		t.Fatalf("%q: %v", source, r)
	}
	return r.Conn
}

// draw lets draws wait.
func draw(t *testing.T, g *gate.Gate, draws ...string) {
	t.Helper()
	for _, d := range draws {
		if r := g.Step(gate.Input{Kind: gate.Draw, Text: d}); !reflect.DeepEqual(r, gate.Result{}) {
			t.Fatal(d, r)
		}
	}
}

// tick advances the clock.
func tick(t *testing.T, g *gate.Gate, n uint64) {
	t.Helper()
	if r := g.Step(gate.Input{Kind: gate.Tick, Ticks: n}); !reflect.DeepEqual(r, gate.Result{}) {
		t.Fatal(n, r)
	}
}

// packed returns the bytes of a frame.
func packed(t *testing.T, kind byte, body string) []byte {
	t.Helper()
	p, e := frame.Pack(frame.Frame{Kind: kind, Body: []byte(body)})
	if e != api.OK {
		t.Fatal(kind, e)
	}
	return p
}

// said is a frame that the gate has sent.
type said struct {
	kind byte
	body string
}

// heard takes what the gate has sent on a connection apart: one frame each output.
func heard(t *testing.T, conn int, out []gate.Output) []said {
	t.Helper()
	var l []said
	for _, o := range out {
		f, n, e := frame.Unpack(o.Data)
		if e != api.OK || n != len(o.Data) || o.Conn != conn || o.To != 0 {
			t.Fatal(o, e)
		}
		l = append(l, said{f.Kind, string(f.Body)})
	}
	return l
}

// pass gives the gate bytes of a client, and returns the frames that it sends him.
func pass(t *testing.T, g *gate.Gate, conn int, p []byte) []said {
	t.Helper()
	r := g.Step(gate.Input{Kind: gate.Bytes, Conn: conn, Data: p})
	if r.Code != api.OK || r.Text != "" || r.Conn != 0 {
		t.Fatal(r)
	}
	return heard(t, conn, r.Out)
}

// send gives the gate a frame of a client, and returns the frames that it sends him.
func send(t *testing.T, g *gate.Gate, conn int, kind byte, body string) []said {
	t.Helper()
	return pass(t, g, conn, packed(t, kind, body))
}

// sends is send, and checks what the gate sends.
func sends(t *testing.T, g *gate.Gate, conn int, kind byte, body string, want ...said) {
	t.Helper()
	if got := send(t, g, conn, kind, body); !slices.Equal(got, want) {
		t.Errorf("frame %d %.80q: %q, not %q", kind, body, got, want)
	}
}

// number is the Error frame of an error.
func number(e api.Errno) said {
	return said{fault, string([]byte{byte(e)})}
}

// event is what an event says, but for its number.
type event struct {
	at   uint64
	kind string
	conn int
	text string
}

// since returns the events with numbers above n.
func since(g *gate.Gate, n uint64) []event {
	var out []event
	for e := range g.Trace().Since(n) {
		out = append(out, event{e.At, e.Kind, e.Conn, e.Text})
	}
	return out
}

// logs does something and checks which events that logs, written as kind, connection and text.
func logs(t *testing.T, g *gate.Gate, do func(), want ...string) {
	t.Helper()
	last := g.Trace().Last()
	do()
	var got []string
	for _, e := range since(g, last) {
		if e.at != g.Now() {
			t.Error(e, "at", g.Now())
		}
		got = append(got, strings.TrimRight(fmt.Sprint(e.kind, " ", e.conn, " ", e.text), " "))
	}
	if !slices.Equal(got, want) {
		t.Errorf("%q logged, not %q", got, want)
	}
}

// looks checks the view of a connection.
func looks(t *testing.T, g *gate.Gate, conn int, want gate.View) {
	t.Helper()
	if v, e := g.Look(conn); v != want || e != api.OK {
		t.Errorf("%d: %+v %d, not %+v", conn, v, e, want)
	}
}

// stateIs checks the state of a connection.
func stateIs(t *testing.T, g *gate.Gate, conn, want int) {
	t.Helper()
	if v, e := g.Look(conn); v.State != want || e != api.OK {
		t.Errorf("%d: state %d %d, not %d", conn, v.State, e, want)
	}
}

// isGone checks that a connection was removed.
func isGone(t *testing.T, g *gate.Gate, conn int) {
	t.Helper()
	if v, e := g.Look(conn); v != (gate.View{}) || e != api.ErrNone || slices.Contains(slices.Collect(g.Conns()), conn) {
		t.Error(conn, v, e)
	}
}

// fails returns how often a source has failed, or -1 if it isn't tracked.
func fails(g *gate.Gate, source string) int {
	for e := range g.Hands().Guard.Entries() {
		if e.Source == source {
			return e.Fails
		}
	}
	return -1
}

// arrive makes a connection that has named its tenant.
func arrive(t *testing.T, g *gate.Gate, source, tenant string) int {
	t.Helper()
	conn := dial(t, g, source)
	sends(t, g, conn, hello, tenant)
	stateIs(t, g, conn, isKnown)
	return conn
}

// begin sends a client first and returns the challenge.
func begin(t *testing.T, g *gate.Gate, conn int, head, bare string) string {
	t.Helper()
	l := send(t, g, conn, first, head+bare)
	if len(l) != 1 || l[0].kind != say {
		t.Fatal(l)
	}
	stateIs(t, g, conn, isAsked)
	return l[0].body
}

// finalOf returns the client final of a client with that password.
func finalOf(t *testing.T, g *gate.Gate, head, bare, pass, challenge string) string {
	t.Helper()
	text, _ := provedBy(t, g, head, bare, pass, challenge)
	return text
}

// provedBy returns the client final of a client with that password, and the verdict that he expects.
func provedBy(t *testing.T, g *gate.Gate, head, bare, pass, challenge string) (string, string) {
	t.Helper()
	c, e := scram.ParseChallenge(challenge)
	if e != api.OK {
		t.Fatal(challenge, e)
	}
	f := scram.Final{Head: head, Nonce: c.Nonce, Proof: make([]byte, 32)}
	without, _ := f.Without()
	p, sum, e := proof.Client(g.Hands().Box, pass, c.Salt, c.Iter, proof.Message(bare, challenge, without))
	if e != api.OK {
		t.Fatal(e)
	}
	f.Proof = p
	text, _ := f.Text()
	verdict, _ := scram.Verdict{Sum: sum}.Text()
	return text, verdict
}

// enter authenticates on a connection that has named its tenant, by a draw of its own, and returns the ticket, if there is one.
func enter(t *testing.T, g *gate.Gate, conn int, role, user, pass string) string {
	t.Helper()
	head := "n,,"
	if role != "" {
		head = "n,a=" + role + ","
	}
	draw(t, g, fmt.Sprint("own", g.Trace().Last()))
	bare := "n=" + user + ",r=abc"
	text, verdict := provedBy(t, g, head, bare, pass, begin(t, g, conn, head, bare))
	l := send(t, g, conn, final, text)
	if len(l) == 0 || l[0] != (said{say, verdict}) {
		t.Fatal(l, verdict)
	}
	stateIs(t, g, conn, isIn)
	if len(l) == 1 {
		return ""
	}
	if len(l) != 2 || l[1].kind != ticked || l[1].body == "" {
		t.Fatal(l)
	}
	return l[1].body
}

// tunnel makes a connection of ann's with a tunnel to web:80.
func tunnel(t *testing.T, g *gate.Gate, source string) int {
	t.Helper()
	conn := arrive(t, g, source, "t")
	enter(t, g, conn, "dev", "ann", "pencil")
	sends(t, g, conn, open, "web:80", said{opened, "web:80"})
	stateIs(t, g, conn, isOpen)
	return conn
}

// inState makes a connection of ann's in any of the states.
func inState(t *testing.T, g *gate.Gate, source string, state int) int {
	t.Helper()
	switch state {
	case isFresh:
		return dial(t, g, source)
	case isOpen:
		return tunnel(t, g, source)
	}
	conn := arrive(t, g, source, "t")
	switch state {
	case isAsked:
		draw(t, g, fmt.Sprint("own", g.Trace().Last()))
		begin(t, g, conn, "n,,", "n=ann,r=abc")
	case isIn:
		enter(t, g, conn, "dev", "ann", "pencil")
	}
	stateIs(t, g, conn, state)
	return conn
}

// all tells everything that can be seen of a gate.
func all(g *gate.Gate) string {
	var out strings.Builder
	h := g.Hands()
	mark, marked := h.Nonces.Mark()
	fmt.Fprintln(&out, g.Now(), g.Checks(), g.Draws(), roll.Dump(h.Users), h.Users.Reads())
	fmt.Fprintln(&out, slices.Collect(h.Nonces.Entries()), mark, marked, h.Nonces.Serial())
	fmt.Fprintln(&out, slices.Collect(h.Guard.Entries()), slices.Collect(h.Ring.Epochs()))
	fmt.Fprintln(&out, slices.Collect(h.Tickets.Revoked()), h.Tickets.Serial(), h.Policy.Text(), h.Box.Len(), h.Box.Full())
	for conn := range g.Conns() {
		v, e := g.Look(conn)
		fmt.Fprintf(&out, "%d %+v %d\n", conn, v, e)
	}
	last := g.Trace().Last()
	fmt.Fprintln(&out, last, g.Trace().Chain(), slices.Collect(g.Trace().Since(max(last, 5)-5)))
	return out.String()
}

func TestP25_1New(t *testing.T) {
	for _, symbolic := range []bool{false, true} {
		c := config()
		c.Symbolic = symbolic
		g := made(t, c)
		h := g.Hands()
		if g.Now() != 0 || g.Checks() != 0 || g.Draws() != 0 || len(slices.Collect(g.Conns())) != 0 || g.Trace().Last() != 0 {
			t.Error(all(g))
		}
		if h.Policy == nil || h.Policy.Len() != 0 || h.Box.Symbolic() != symbolic || len(slices.Collect(h.Users.Tenants())) != 0 || h.Nonces.Len() != 0 || h.Guard.Len() != 0 || h.Tickets.Serial() != 0 {
			t.Error(all(g))
		}
		if !slices.Equal(slices.Collect(h.Ring.Epochs()), []uint64{1}) {
			t.Error(slices.Collect(h.Ring.Epochs()))
		}
	}
}

// Each part gets the part of the configuration that is for it.
func TestP25_1Config(t *testing.T) {
	c := config()
	g := lay(t, c)
	key, e := g.Hands().Ring.Key(1)
	if want := g.Hands().Box.Mac([]byte("m"), []byte("key 1")); e != api.OK || !bytes.Equal(key, want) {
		t.Error(key, e)
	}
	for range 3 {
		g.Hands().Ring.Rotate()
	}
	if g.Hands().Ring.Len() != c.Keys {
		t.Error(g.Hands().Ring.Len())
	}
	if _, x, e := g.Hands().Tickets.Mint(api.Who{Tenant: "t", User: "ann", Role: "dev"}, 1, 0); e != api.OK || x.To != c.Life {
		t.Error(x, e)
	}
	n, _ := g.Hands().Nonces.Issue("d", 0)
	if g.Hands().Nonces.Check(n, 50) != api.OK || g.Hands().Nonces.Check(n, 51) != api.ErrLate {
		t.Error("the window is another one")
	}
	for i := range 3 {
		g.Hands().Guard.Enter(fmt.Sprint(i), 0)
	}
	if g.Hands().Guard.Enter("x", 0) != api.ErrFull {
		t.Error("the guard has another room")
	}
	g.Hands().Guard.Fail("0", 0)
	if !g.Hands().Guard.Locked("0", 3) || g.Hands().Guard.Locked("0", 4) {
		t.Error("the guard has another base")
	}
	// The gate's own trace keeps MaxEvents events.
	g = made(t, c)
	for i := range 300 {
		admin(t, g, "tenant-add t", "ok")
		admin(t, g, "tenant-drop t", "ok")
		if n := uint64(2*i + 2); g.Trace().Last() != n || g.Trace().First() != max(n, 256)-256+1 {
			t.Fatal(g.Trace().First(), g.Trace().Last())
		}
	}
}

// The caller may overwrite the master secret.
func TestP25_1Memory(t *testing.T) {
	c := config()
	c.Master = []byte("master secret")[:6]
	g := made(t, c)
	clear(c.Master[:cap(c.Master)])
	g.Hands().Ring.Rotate()
	key, e := g.Hands().Ring.Key(2)
	if want := g.Hands().Box.Mac([]byte("master"), []byte("key 2")); e != api.OK || !bytes.Equal(key, want) {
		t.Error(key, e)
	}
}

func TestP25_1NewErrors(t *testing.T) {
	long := bytes.Repeat([]byte("m"), 65)
	const above = api.MaxTick + 1
	for i, change := range []func(c *gate.Config){
		func(c *gate.Config) { c.Conns = 0 },
		func(c *gate.Config) { c.Conns = -1 },
		func(c *gate.Config) { c.Conns = 17 },
		func(c *gate.Config) { c.Conns = math.MinInt },
		func(c *gate.Config) { c.Conns = math.MaxInt },
		func(c *gate.Config) { c.Iter = 0 },
		func(c *gate.Config) { c.Iter = -1 },
		func(c *gate.Config) { c.Iter = 65 },
		func(c *gate.Config) { c.Iter = math.MaxInt },
		func(c *gate.Config) { c.Nonces.Room = 0 },
		func(c *gate.Config) { c.Nonces.Room = 65 },
		func(c *gate.Config) { c.Nonces.Window = 0 },
		func(c *gate.Config) { c.Nonces.Window = above },
		func(c *gate.Config) { c.Guard.Room = 0 },
		func(c *gate.Config) { c.Guard.Room = 65 },
		func(c *gate.Config) { c.Guard.Base = 0 },
		func(c *gate.Config) { c.Guard.Base = above },
		func(c *gate.Config) { c.Guard.Most = 0 },
		func(c *gate.Config) { c.Guard.Most = above },
		func(c *gate.Config) { c.Guard.Hold = 0 },
		func(c *gate.Config) { c.Guard.Hold = above },
		func(c *gate.Config) { c.Master = nil },
		func(c *gate.Config) { c.Master = long },
		func(c *gate.Config) { c.Keys = 0 },
		func(c *gate.Config) { c.Keys = 9 },
		func(c *gate.Config) { c.Life = 0 },
		func(c *gate.Config) { c.Life = above },
		func(c *gate.Config) { c.Room = 0 },
		func(c *gate.Config) { c.Room = -1 },
		func(c *gate.Config) { c.Room = 4097 },
		func(c *gate.Config) { c.Room, c.Life = 0, 0 },
		func(c *gate.Config) { c.Master, c.Life, c.Conns = nil, 0, 0 },
		func(c *gate.Config) { *c = gate.Config{} },
	} {
		for _, symbolic := range []bool{false, true} {
			c := config()
			change(&c)
			c.Symbolic = symbolic
			if g, e := gate.New(c); g != nil || e != api.ErrArg {
				t.Error(i, c, e)
			}
		}
	}
}

// The least and the most of everything.
func TestP25_1NewBounds(t *testing.T) {
	made(t, gate.Config{Conns: 1, Nonces: nonce.Config{Room: 1, Window: 1}, Guard: guard.Config{Room: 1, Base: 1, Most: 1, Hold: 1}, Master: []byte{0}, Keys: 1, Life: 1, Room: 1, Iter: 1})
	made(t, gate.Config{
		Conns:  16,
		Nonces: nonce.Config{Room: 64, Window: api.MaxTick},
		Guard:  guard.Config{Room: 64, Base: api.MaxTick, Most: api.MaxTick, Hold: api.MaxTick},
		Master: bytes.Repeat([]byte("m"), 64), Keys: 8, Life: api.MaxTick, Room: 4096, Iter: 64,
	})
}

// Anything but the eight kinds.
func TestP25_1Kinds(t *testing.T) {
	g := lay(t, config())
	conn := dial(t, g, "s")
	for _, kind := range []int{0, -1, 9, 10, 99, 257, math.MaxInt, math.MinInt, 1 << 32} {
		before := all(g)
		in := gate.Input{Kind: kind, Conn: conn, Source: "s", Data: packed(t, hello, "t"), Text: "count", Ticks: 5}
		if r := g.Step(in); !reflect.DeepEqual(r, gate.Result{Code: api.ErrArg}) || all(g) != before {
			t.Error(kind, r)
		}
	}
}

// The numbers go on, whatever was removed.
func TestP25_1Dial(t *testing.T) {
	g := made(t, config())
	for i, source := range []string{"s", "10.0.0.1", "a b"} {
		logs(t, g, func() {
			if n := dial(t, g, source); n != i+1 {
				t.Error(source, n)
			}
		}, fmt.Sprint("dial ", i+1, " ", source))
		looks(t, g, i+1, gate.View{Source: source})
	}
	for range 2 {
		before := all(g)
		if r := g.Step(gate.Input{Kind: gate.Dial, Source: "s"}); !reflect.DeepEqual(r, gate.Result{Code: api.ErrFull}) || all(g) != before {
			t.Error(r)
		}
	}
	g.Step(gate.Input{Kind: gate.Hang, Conn: 2})
	if n := dial(t, g, "s"); n != 4 {
		t.Error(n)
	}
	if got := slices.Collect(g.Conns()); !slices.Equal(got, []int{1, 3, 4}) {
		t.Error(got)
	}
	g.Step(gate.Input{Kind: gate.Hang, Conn: 4})
	if n := dial(t, g, "s"); n != 5 {
		t.Error(n)
	}
}

func TestP25_1DialErrors(t *testing.T) {
	bad := []string{"", "\xff", "a\x00", "\u00ad", "a\x7f", strings.Repeat("s", 33), strings.Repeat("s", 5000), strings.Repeat("s", 31) + "ü", strings.Repeat("s", 31) + "\u00ad"}
	for _, conns := range []int{0, 3} { // the form comes first
		g := made(t, config())
		for range conns {
			dial(t, g, "s")
		}
		for _, source := range bad {
			before := all(g)
			if r := g.Step(gate.Input{Kind: gate.Dial, Source: source, Conn: 1, Data: []byte("a")}); !reflect.DeepEqual(r, gate.Result{Code: api.ErrForm}) || all(g) != before {
				t.Errorf("%q: %v", source, r)
			}
		}
	}
	g := made(t, config())
	for i, source := range []string{strings.Repeat("s", 32), strings.Repeat("ü", 16), "a\u00adb"} {
		logs(t, g, func() { dial(t, g, source) }, fmt.Sprint("dial ", i+1, " ", source))
		looks(t, g, i+1, gate.View{Source: source})
		// And the guard takes it.
		if e := g.Hands().Guard.Enter(source, 0); e != api.OK {
			t.Error(source, e)
		}
	}
}

// As many connections as the configuration says.
func TestP25_1Conns(t *testing.T) {
	for conns := 1; conns <= 16; conns++ {
		c := config()
		c.Conns = conns
		g := made(t, c)
		for range conns {
			dial(t, g, "s")
		}
		if r := g.Step(gate.Input{Kind: gate.Dial, Source: "s"}); r.Code != api.ErrFull {
			t.Error(conns, r)
		}
	}
}

// Inputs for a connection that isn't there, or not any more.
func TestP25_1NoConn(t *testing.T) {
	g := lay(t, config())
	dial(t, g, "s")
	dial(t, g, "s")
	g.Step(gate.Input{Kind: gate.Hang, Conn: 1})
	for _, conn := range []int{0, 1, -1, -2, 3, 4, math.MaxInt, math.MinInt} {
		for _, kind := range []int{gate.Bytes, gate.Drain, gate.Up, gate.Hang} {
			before := all(g)
			in := gate.Input{Kind: kind, Conn: conn, Source: "s", Data: packed(t, hello, "t"), Text: "count", Ticks: 5}
			if r := g.Step(in); !reflect.DeepEqual(r, gate.Result{Code: api.ErrNone}) || all(g) != before {
				t.Error(kind, conn, r)
			}
		}
	}
}

// The draw that has waited longest is taken, whatever it is.
func TestP25_1Draws(t *testing.T) {
	g := lay(t, config())
	for i := range 16 {
		draw(t, g, fmt.Sprint("d", i))
		if g.Draws() != i+1 {
			t.Error(i, g.Draws())
		}
	}
	for _, d := range []string{"d", ""} {
		before := all(g)
		if r := g.Step(gate.Input{Kind: gate.Draw, Text: d}); !reflect.DeepEqual(r, gate.Result{Code: api.ErrFull}) || all(g) != before {
			t.Error(r)
		}
	}
	conn := arrive(t, g, "s", "t")
	for i := range 16 {
		issued := fmt.Sprintf("d%d.%016x", i, i+1)
		if got := begin(t, g, conn, "n,,", "n=ann,r=abc"); !strings.HasPrefix(got, "r=abc"+issued+",") {
			t.Error(i, got)
		}
		if g.Draws() != 15 {
			t.Error(g.Draws())
		}
		draw(t, g, fmt.Sprint("e", i))
		send(t, g, conn, final, "") // fails, but isn't counted
	}
	if got := begin(t, g, conn, "n,,", "n=ann,r=abc"); !strings.HasPrefix(got, "r=abce0.") {
		t.Error(got)
	}
}

// A draw that no nonce can have is taken all the same.
func TestP25_1BadDraws(t *testing.T) {
	g := lay(t, config())
	conn := arrive(t, g, "s", "t")
	for _, d := range []string{"", "a,b", " ", "\xff", strings.Repeat("d", 41), strings.Repeat("d", 5000)} {
		draw(t, g, d)
		errno := api.ErrForm
		if len(d) > 44 {
			errno = api.ErrLong
		}
		logs(t, g, func() {
			sends(t, g, conn, first, "n,,n=ann,r=abc", said{say, "e=other-error"})
		}, fmt.Sprint("fail ", conn, " ", int(errno)))
		stateIs(t, g, conn, isKnown)
		if g.Draws() != 0 || g.Hands().Nonces.Serial() != 0 {
			t.Error(d, g.Draws())
		}
	}
}

func TestP25_1Tick(t *testing.T) {
	g := made(t, config())
	now := uint64(0)
	for _, n := range []uint64{0, 1, 5, 1 << 20, 0} {
		now += n
		logs(t, g, func() { tick(t, g, n) })
		if g.Now() != now {
			t.Error(g.Now(), now)
		}
	}
	tick(t, g, math.MaxUint64)
	if g.Now() != api.MaxTick {
		t.Error(g.Now())
	}
	tick(t, g, 1)
	if g.Now() != api.MaxTick {
		t.Error(g.Now())
	}
}

// Layer 24 determines the answer; only a line that is a command is logged, however it goes.
func TestP25_1Admin(t *testing.T) {
	g := made(t, config())
	tick(t, g, 7)
	for _, c := range []struct {
		line, text string
		code       api.Errno
		event      string
	}{
		{"tenant-add t", "ok", api.OK, "tenant-add"},
		{`"tenant-add" "u"`, "ok", api.OK, "tenant-add"},
		{"tenant-add t", "", api.ErrExists, "tenant-add"},
		{"user-add t ann pencil 01 2", "ok", api.OK, "user-add"},
		{"user-add t bob pencil 01 x", "", api.ErrForm, "user-add"},
		{"show-user t ann", "1 on -", api.OK, "show-user"},
		{"show-user t bob", "", api.ErrNone, "show-user"},
		{"count", "2 1 0 0 0", api.OK, "count"},
		{"policy x", "", api.ErrForm, "policy"},
		{"show-policy", "", api.OK, "show-policy"},
		{"key-rotate", "2", api.OK, "key-rotate"},
		{"help", "", api.ErrNone, ""},
		{"count x", "", api.ErrArg, ""},
		{"count ", "", api.ErrForm, ""},
		{"", "", api.ErrForm, ""},
		{"tenant-add " + strings.Repeat("x", 5000), "", api.ErrLong, ""},
	} {
		want := []string{"admin 0 " + c.event}
		if c.event == "" {
			want = nil
		}
		logs(t, g, func() {
			if r := g.Step(gate.Input{Kind: gate.Admin, Text: c.line, Conn: 1}); !reflect.DeepEqual(r, gate.Result{Text: c.text, Code: c.code}) {
				t.Errorf("%.80q: %v", c.line, r)
			}
		}, want...)
	}
}

// Commands are executed at the gate's time.
func TestP25_1AdminTime(t *testing.T) {
	g := lay(t, config())
	g.Hands().Nonces.Issue("d", 0)
	g.Hands().Guard.Enter("s", 0)
	tick(t, g, 50)
	admin(t, g, "sweep", "0 1 0")
	tick(t, g, 1)
	admin(t, g, "sweep", "1 0 0")
}

func TestP25_1Hang(t *testing.T) {
	for state := isFresh; state <= isOpen; state++ {
		g := lay(t, config())
		other := dial(t, g, "other")
		conn := inState(t, g, "s", state)
		logs(t, g, func() {
			if r := g.Step(gate.Input{Kind: gate.Hang, Conn: conn}); !reflect.DeepEqual(r, gate.Result{}) {
				t.Error(r)
			}
		}, fmt.Sprint("hang ", conn))
		isGone(t, g, conn)
		looks(t, g, other, gate.View{Source: "other"})
	}
}

func TestP25_1Drain(t *testing.T) {
	g := lay(t, config())
	conn := tunnel(t, g, "s")
	other := tunnel(t, g, "o")
	drain := func(conn int, n uint64) gate.Result {
		return g.Step(gate.Input{Kind: gate.Drain, Conn: conn, Ticks: n})
	}
	empty := gate.Result{}
	up := func(s string) gate.Result {
		return gate.Result{Out: []gate.Output{{Conn: conn, To: 1, Data: []byte(s)}}}
	}
	for _, n := range []uint64{0, 1, math.MaxUint64} {
		if r := drain(conn, n); !reflect.DeepEqual(r, empty) {
			t.Error(n, r)
		}
	}
	sends(t, g, conn, data, "hello")
	sends(t, g, conn, data, "")
	sends(t, g, conn, data, "world")
	logs(t, g, func() {
		for _, c := range []struct {
			n    uint64
			want gate.Result
		}{{0, empty}, {4, up("hell")}, {1, up("o")}, {3, up("wor")}, {math.MaxUint64, up("ld")}, {5, empty}} {
			if r := drain(conn, c.n); !reflect.DeepEqual(r, c.want) {
				t.Error(c.n, r, c.want)
			}
		}
	})
	sends(t, g, conn, data, "0123456789") // there is room again
	if r := drain(conn, 1<<63); !reflect.DeepEqual(r, up("0123456789")) {
		t.Error(r)
	}
	sends(t, g, conn, data, "ab")
	if r := drain(conn, 1<<32); !reflect.DeepEqual(r, up("ab")) {
		t.Error(r)
	}
	if r := drain(other, 9); !reflect.DeepEqual(r, empty) {
		t.Error(r)
	}
}

// Only a connection with a tunnel has two ends.
func TestP25_1TunnelState(t *testing.T) {
	for state := isFresh; state < isOpen; state++ {
		g := lay(t, config())
		conn := inState(t, g, "s", state)
		for _, kind := range []int{gate.Drain, gate.Up} {
			before := all(g)
			if r := g.Step(gate.Input{Kind: kind, Conn: conn, Data: []byte("abc"), Ticks: 5}); !reflect.DeepEqual(r, gate.Result{Code: api.ErrState}) || all(g) != before {
				t.Error(state, kind, r)
			}
		}
	}
}

func TestP25_1Up(t *testing.T) {
	for _, room := range []int{1, 10, 511, 512, 513, 1024, 1500, 4096} {
		c := config()
		c.Room = room
		g := lay(t, c)
		conn := tunnel(t, g, "s")
		for _, size := range []int{0, 1, 9, 10, 11, 511, 512, 513, 1023, 1024, 1025, 4095, 4096, 4097, 20000} {
			p := make([]byte, size)
			for i := range p {
				p[i] = byte(i*7 + i/256)
			}
			var want []said
			for part := range slices.Chunk(p[:min(size, room)], 512) {
				want = append(want, said{sent, string(part)})
			}
			logs(t, g, func() {
				r := g.Step(gate.Input{Kind: gate.Up, Conn: conn, Data: p})
				if got := heard(t, conn, r.Out); r.Code != api.OK || r.Text != "" || r.Conn != 0 || !slices.Equal(got, want) {
					t.Error(room, size, len(got), r.Code)
				}
			})
		}
		// The other direction is another one.
		if r := g.Step(gate.Input{Kind: gate.Drain, Conn: conn, Ticks: 9}); !reflect.DeepEqual(r, gate.Result{}) {
			t.Error(r)
		}
	}
}

func TestP25_2Objects(t *testing.T) {
	g := made(t, config())
	if g.Hands() != g.Hands() || g.Trace() != g.Trace() {
		t.Error("other objects")
	}
	// The administrator acts directly: nothing is logged, but all of it counts.
	h := g.Hands()
	for _, line := range []string{"tenant-add t", "user-add t ann pencil 01 2", "grant t ann dev", `policy "allow dev t * 80"`} {
		logs(t, g, func() {
			if reply, e := h.Do(line, 0); reply != "ok" || e != api.OK {
				t.Error(reply, e)
			}
		})
	}
	conn := tunnel(t, g, "s")
	if reply, e := h.Do("revoke t ann", 0); reply != "ok" || e != api.OK {
		t.Error(reply, e)
	}
	stateIs(t, g, conn, isOpen) // a tunnel that is open stays open
	other := arrive(t, g, "s", "t")
	draw(t, g, "d")
	sends(t, g, other, final, "", number(api.ErrState))
	if n, e := g.Trace().Add(5, "note", 0, ""); n != 7 || e != api.OK {
		t.Error(n, e)
	}
	logs(t, g, func() { g.Step(gate.Input{Kind: gate.Hang, Conn: conn}) }, fmt.Sprint("hang ", conn))
	if g.Trace().Last() != 8 {
		t.Error(g.Trace().Last())
	}
}

// What the administrator puts into the place of another object is used from then on.
func TestP25_2Replaced(t *testing.T) {
	g := lay(t, config())
	conn := inState(t, g, "s", isIn)
	twin := lay(t, config())
	admin(t, twin, `policy "allow * * * 81"`, "ok")
	g.Hands().Policy = twin.Hands().Policy
	sends(t, g, conn, open, "web:80", number(api.ErrDenied))
	g.Hands().Users = twin.Hands().Users
	sends(t, g, conn, open, "web:81", said{opened, "web:81"})
	g.Hands().Nonces = twin.Hands().Nonces
	other := arrive(t, g, "s", "t")
	enter(t, g, other, "", "ann", "pencil")
	if twin.Hands().Nonces.Serial() != 1 || twin.Hands().Users.Reads() != 1 {
		t.Error("not the new objects")
	}
}

// The chain of the gate's own trace is right.
func TestP25_2Trace(t *testing.T) {
	g := lay(t, config())
	for state := isFresh; state <= isOpen; state++ {
		conn := inState(t, g, "s", state)
		g.Step(gate.Input{Kind: gate.Hang, Conn: conn})
	}
	if !trace.Verify(make([]byte, 32), g.Trace().Chain(), slices.Collect(g.Trace().Since(0))...) {
		t.Error("the chain is wrong")
	}
}

func TestP25_2Conns(t *testing.T) {
	c := config()
	c.Conns = 5
	g := made(t, c)
	for range 5 {
		dial(t, g, "s")
	}
	seq := g.Conns()
	for most := 1; most <= 5; most++ {
		var got []int
		for n := range seq {
			got = append(got, n)
			if len(got) == most {
				break
			}
		}
		if !slices.Equal(got, []int{1, 2, 3, 4, 5}[:most]) {
			t.Error(got)
		}
	}
	// What happens meanwhile does not matter.
	var got []int
	for n := range seq {
		got = append(got, n)
		g.Step(gate.Input{Kind: gate.Hang, Conn: n})
		g.Step(gate.Input{Kind: gate.Hang, Conn: n + 1})
		dial(t, g, "s")
	}
	if !slices.Equal(got, []int{1, 2, 3, 4, 5}) {
		t.Error(got)
	}
	if got := slices.Collect(seq); len(got) == 0 || got[0] <= 5 || !slices.IsSorted(got) {
		t.Error(got)
	}
}

// A view of each state.
func TestP25_2Look(t *testing.T) {
	g := lay(t, config())
	conn := dial(t, g, "s")
	looks(t, g, conn, gate.View{Source: "s", State: 0})
	sends(t, g, conn, hello, "t")
	looks(t, g, conn, gate.View{Source: "s", State: 1, Tenant: "t"})
	draw(t, g, "d")
	text := finalOf(t, g, "n,,", "n=a\u00adnn,r=abc", "pencil", begin(t, g, conn, "n,,", "n=a\u00adnn,r=abc"))
	looks(t, g, conn, gate.View{Source: "s", State: 2, Tenant: "t"})
	send(t, g, conn, final, text)
	in := gate.View{Source: "s", State: 3, Tenant: "t", Who: api.Who{Tenant: "t", User: "ann", Role: "dev"}, Gen: 3}
	looks(t, g, conn, in)
	send(t, g, conn, open, "web:80")
	in.State, in.Target = 4, "web:80"
	looks(t, g, conn, in)
	for _, n := range []int{0, -1, 2, math.MaxInt, math.MinInt} {
		if v, e := g.Look(n); v != (gate.View{}) || e != api.ErrNone {
			t.Error(n, v, e)
		}
	}
}

func TestP25_2Nil(t *testing.T) {
	var g *gate.Gate
	for kind := -1; kind <= 9; kind++ {
		for _, conn := range []int{0, 1} {
			in := gate.Input{Kind: kind, Conn: conn, Source: "s", Data: []byte{1, 0, 0}, Text: "count", Ticks: 5}
			if r := g.Step(in); !reflect.DeepEqual(r, gate.Result{Code: api.ErrNone}) {
				t.Error(kind, r)
			}
		}
	}
	if g.Hands() != nil || g.Trace() != nil || g.Now() != 0 || g.Checks() != 0 || g.Draws() != 0 {
		t.Error("something of nothing")
	}
	for n := range g.Conns() {
		t.Error(n)
	}
	if v, e := g.Look(1); v != (gate.View{}) || e != api.ErrNone {
		t.Error(v, e)
	}
}
