package world_test

import (
	"bytes"
	"fmt"
	"math"
	"slices"
	"strings"
	"testing"

	"ostiary/api"
	"ostiary/frame"
	"ostiary/gate"
	"ostiary/guard"
	"ostiary/guest"
	"ostiary/nonce"
	"ostiary/world"
)

// The kinds of frames, by layer 25's tables.
const (
	hello = 1
	first = 2
	final = 3
	ask   = 4
	show  = 5
	open  = 6
	data  = 7
	bye   = 8

	say    = 9
	answer = 10
	ticked = 11
	opened = 12
	sent   = 13
	closed = 14
	fault  = 15
)

// The states of a connection, by layer 25.
const (
	isFresh = 0
	isKnown = 1
	isAsked = 2
	isIn    = 3
	isOpen  = 4
)

// kinds are those of all acts; bound are those that are somebody's.
var (
	kinds = []int{world.Join, world.Begin, world.Request, world.Show, world.Open, world.Send, world.Bye, world.Hear, world.Lose, world.Turn, world.Raw, world.Pull, world.Push, world.Tick, world.Admin, world.Give}
	bound = []int{world.Begin, world.Request, world.Show, world.Open, world.Send, world.Bye, world.Hear, world.Lose, world.Turn, world.Raw, world.Pull, world.Push, world.Give}
)

// config is that of most tests.
func config() gate.Config {
	return gate.Config{
		Conns:  16,
		Nonces: nonce.Config{Room: 16, Window: 100},
		Guard:  guard.Config{Room: 16, Base: 2, Most: 64, Hold: 100},
		Master: []byte("keeper"),
		Keys:   3,
		Life:   100,
		Room:   1024,
		Iter:   2,
	}
}

// setup is what the administrator of most tests says.
var setup = []string{
	"tenant-add t", "tenant-add u",
	"user-add t ann pencil 0102 2", "grant t ann dev", "grant t ann ops",
	"user-add t bob secret 03 3",
	"user-add u ann other 04 1", "grant u ann dev",
	`policy "deny * * bad* *\nallow dev t * 80\nallow ops * db 1-9999\n"`,
}

// made returns a new world.
func made(t *testing.T, c gate.Config) *world.World {
	t.Helper()
	w, e := world.New(c)
	if w == nil || e != api.OK {
		t.Fatal(c, e)
	}
	return w
}

// lay returns a world where all that is set up.
func lay(t *testing.T, c gate.Config) *world.World {
	t.Helper()
	w := made(t, c)
	for _, line := range setup {
		does(t, w, world.Act{Kind: world.Admin, Text: line})
	}
	return w
}

// does performs acts that succeed.
func does(t *testing.T, w *world.World, acts ...world.Act) {
	t.Helper()
	for _, a := range acts {
		fails(t, w, a, api.OK)
	}
}

// fails performs an act with that error.
func fails(t *testing.T, w *world.World, a world.Act, want api.Errno) {
	t.Helper()
	if e := w.Do(a); e != want {
		t.Fatalf("%+v: %d, not %d", a, e, want)
	}
}

// fruitless performs an act with that error, and checks that nothing has happened.
func fruitless(t *testing.T, w *world.World, a world.Act, want api.Errno) {
	t.Helper()
	before := look(w)
	fails(t, w, a, want)
	if after := look(w); after != before {
		t.Fatalf("%+v:\n%s\nwas\n%s", a, after, before)
	}
}

// look is all that there is to see of a world.
func look(w *world.World) string {
	var out strings.Builder
	g := w.Gate()
	fmt.Fprintf(&out, "%d %d %d %x %d\n", g.Now(), g.Draws(), g.Checks(), g.Trace().Chain(), g.Hands().Nonces.Serial())
	for conn := range g.Conns() {
		v, _ := g.Look(conn)
		fmt.Fprintf(&out, "%d %v\n", conn, v)
	}
	for n := range w.Guests() {
		c := w.Guest(n)
		fmt.Fprintf(&out, "%d %d %d %q %q %d %q\n", w.Conn(n), w.Waits(n), c.State(), c.Ticket(), c.Got(), c.Fault(), w.Got(n))
	}
	fmt.Fprintf(&out, "%q %q", listed(w.Heard()), listed(w.Said()))
	return out.String()
}

// listed returns what an iterator yields, a text each.
func listed(all func(func(int, []byte) bool)) []string {
	var out []string
	for conn, p := range all {
		out = append(out, fmt.Sprint(conn, " ", string(p)))
	}
	return out
}

// packed returns the bytes of a frame.
func packed(kind byte, body string) []byte {
	return append([]byte{kind, byte(len(body) >> 8), byte(len(body))}, body...)
}

// grown checks what act adds to a list: a connection and a frame each.
func grown(t *testing.T, all func() []string, act func(), want ...string) {
	t.Helper()
	before := all()
	act()
	after := all()
	if len(after) < len(before) || !slices.Equal(after[:len(before)], before) || !slices.Equal(after[len(before):], want) {
		t.Fatalf("%q, not %q behind %q", after, want, before)
	}
}

// says checks that an act, which ends with this error, sends the gate these slices, and nothing else, on the connection of that guest.
func says(t *testing.T, w *world.World, a world.Act, e api.Errno, want ...[]byte) {
	t.Helper()
	var lines []string
	for _, p := range want {
		lines = append(lines, fmt.Sprint(w.Conn(a.Who), " ", string(p)))
	}
	grown(t, func() []string { return listed(w.Said()) }, func() { fails(t, w, a, e) }, lines...)
}

// join adds a guest.
func join(name, pass, role, source string) world.Act {
	return world.Act{Kind: world.Join, Name: name, Pass: pass, Role: role, Text: source}
}

// enter lets guest n get in by SCRAM.
func enter(t *testing.T, w *world.World, n int) {
	t.Helper()
	does(t, w, world.Act{Kind: world.Begin, Who: n, Text: "abc"})
	w.Calm(200)
	if w.Guest(n).State() != guest.In {
		t.Fatal(n, w.Guest(n).State())
	}
}

// through lets guest n have a tunnel.
func through(t *testing.T, w *world.World, n int) {
	t.Helper()
	enter(t, w, n)
	does(t, w, world.Act{Kind: world.Open, Who: n, Text: "web:80"})
	w.Calm(200)
	if v, _ := w.Gate().Look(w.Conn(n)); w.Guest(n).State() != guest.Open || v.State != isOpen {
		t.Fatal(n, w.Guest(n).State(), v)
	}
}

// New returns the gate's errors, and a world that has the gate that it was asked for.
func TestP27_1New(t *testing.T) {
	for what, spoil := range map[string]func(c *gate.Config){
		"no connections":   func(c *gate.Config) { c.Conns = 0 },
		"many connections": func(c *gate.Config) { c.Conns = 17 },
		"no nonces":        func(c *gate.Config) { c.Nonces.Room = 0 },
		"no window":        func(c *gate.Config) { c.Nonces.Window = 0 },
		"no sources":       func(c *gate.Config) { c.Guard.Room = 65 },
		"no wait":          func(c *gate.Config) { c.Guard.Base = 0 },
		"no master":        func(c *gate.Config) { c.Master = nil },
		"no keys":          func(c *gate.Config) { c.Keys = 9 },
		"no life":          func(c *gate.Config) { c.Life = 0 },
		"no room":          func(c *gate.Config) { c.Room = 4097 },
		"no rounds":        func(c *gate.Config) { c.Iter = 65 },
	} {
		c := config()
		spoil(&c)
		if w, e := world.New(c); w != nil || e != api.ErrArg {
			t.Error(what, w, e)
		}
	}
	if w, e := world.New(gate.Config{}); w != nil || e != api.ErrArg {
		t.Error(w, e)
	}
	for _, symbolic := range []bool{false, true} {
		c := config()
		c.Symbolic = symbolic
		c.Conns = 1
		w := made(t, c)
		if w.Guests() != 0 || w.Gate().Now() != 0 || w.Gate().Trace().Last() != 0 || w.Gate().Hands().Box.Symbolic() != symbolic {
			t.Error(look(w))
		}
		does(t, w, join("ann", "pencil", "", "s"))
		fails(t, w, join("ann", "pencil", "", "s"), api.ErrFull)
	}
}

// A kind that there isn't is ErrForm, whatever else applies.
func TestP27_1Kinds(t *testing.T) {
	w := lay(t, config())
	does(t, w, join("ann", "pencil", "", "s"))
	for _, kind := range []int{0, -1, 17, 18, 99, 256 + world.Tick, math.MinInt, math.MaxInt} {
		for _, who := range []int{0, 1, -1, 99} {
			fruitless(t, w, world.Act{Kind: kind, Who: who}, api.ErrForm)
			fruitless(t, w, world.Act{Kind: kind, Who: who, Name: "\x00", Text: "x", Data: []byte("x"), N: 99}, api.ErrForm)
		}
	}
	fruitless(t, made(t, config()), world.Act{}, api.ErrForm)
}

// Who is the index of a guest, where it is used.
func TestP27_1Who(t *testing.T) {
	w := lay(t, config())
	for guests := range 3 {
		for _, kind := range bound {
			for _, who := range []int{-1, guests, guests + 1, 16, math.MinInt, math.MaxInt} {
				fruitless(t, w, world.Act{Kind: kind, Who: who, Text: "abc", Data: []byte("x")}, api.ErrArg)
				fruitless(t, w, world.Act{Kind: kind, Who: who, N: 99}, api.ErrArg)
			}
		}
		a := join("ann", "pencil", "", "s")
		a.Who = []int{-1, 99, math.MinInt}[guests]
		does(t, w, a)
	}
	does(t, w, world.Act{Kind: world.Tick, Who: -1, N: 3}, world.Act{Kind: world.Admin, Who: 99, Text: "key-rotate"})
	if w.Gate().Now() != 3 || w.Gate().Hands().Ring.Len() != 2 {
		t.Error(look(w))
	}
	for n := range 3 {
		says(t, w, world.Act{Kind: world.Bye, Who: n}, api.OK, packed(bye, ""))
	}
}

// Join makes a connection, which the guest names its tenant on.
func TestP27_1Join(t *testing.T) {
	w := lay(t, config())
	for n, name := range []string{"ann", "eve", "a\u00adnn", "bob"} {
		source := fmt.Sprint("10.0.0.", n)
		a := join(name, "x", "dev", source)
		a.Who = n
		grown(t, func() []string { return listed(w.Said()) }, func() { does(t, w, a) }, fmt.Sprint(n+1, " ", string(packed(hello, "t"))))
		v, e := w.Gate().Look(w.Conn(n))
		if e != api.OK || w.Conn(n) != n+1 || v.Source != source || v.State != isKnown || v.Tenant != "t" {
			t.Error(n, w.Conn(n), v, e)
		}
		if w.Guests() != n+1 || w.Guest(n).State() != guest.Here || w.Waits(n) != 0 || w.Got(n) != nil || w.Gate().Draws() != 0 {
			t.Error(look(w))
		}
	}
}

// The guest has the name, the password and the role that were passed, and the gate's box.
func TestP27_1JoinWho(t *testing.T) {
	for _, symbolic := range []bool{false, true} {
		c := config()
		c.Symbolic = symbolic
		w := lay(t, c)
		does(t, w, join("ann", "pencil", "ops", "s"), join("ann", "pencil ", "ops", "s"), join("bob", "secret", "", "b"))
		says(t, w, world.Act{Kind: world.Begin, Text: "abc"}, api.OK, packed(first, "n,a=ops,n=ann,r=abc"))
		says(t, w, world.Act{Kind: world.Begin, Who: 2, Text: "xyz"}, api.OK, packed(first, "n,,n=bob,r=xyz"))
		w.Calm(200)
		for n, want := range map[int]api.Who{0: {Tenant: "t", User: "ann", Role: "ops"}, 2: {Tenant: "t", User: "bob"}} {
			if v, _ := w.Gate().Look(w.Conn(n)); w.Guest(n).State() != guest.In || v.State != isIn || v.Who != want {
				t.Error(n, w.Guest(n).State(), v)
			}
		}
		does(t, w, world.Act{Kind: world.Begin, Who: 1, Text: "abc"})
		w.Calm(200)
		if v, _ := w.Gate().Look(w.Conn(1)); w.Guest(1).State() != guest.Bad || v.State != isKnown {
			t.Error(w.Guest(1).State(), v)
		}
	}
}

// The errors of Join come in the order of the table, and nobody is added then.
func TestP27_1JoinErrors(t *testing.T) {
	long := strings.Repeat("s", 33)
	c := config()
	c.Conns = 2
	w := lay(t, c)
	for range 2 {
		for _, source := range []string{"", long, "\x01", "\xff", "a\u0085"} {
			fruitless(t, w, join("ann", "pencil", "", source), api.ErrForm)
		}
		for _, source := range []string{"s", ""} {
			fruitless(t, w, join("\xff", "", "", source), api.ErrForm)
			fruitless(t, w, join("a\x00", "", "", source), api.ErrSign)
			fruitless(t, w, join("", "pencil", "", source), api.ErrShort)
			fruitless(t, w, join(long, "pencil", "", source), api.ErrLong)
			fruitless(t, w, join("ann", "", "", source), api.ErrShort)
			fruitless(t, w, join("ann", "\x07", "", source), api.ErrSign)
			fruitless(t, w, join("ann", strings.Repeat("p", 65), "", source), api.ErrLong)
		}
		does(t, w, join("ann", "pencil", "", "s"))
	}
	fruitless(t, w, join("ann", "pencil", "", "s"), api.ErrFull)
	fruitless(t, w, join("ann", "pencil", "", ""), api.ErrForm)
	fruitless(t, w, join("ann", "", "", "s"), api.ErrShort)
	does(t, w, world.Act{Kind: world.Bye}, join("ann", "pencil", "", "s"))
	if w.Guests() != 3 || w.Conn(2) != 3 {
		t.Error(look(w))
	}
}

// There are at most 16 guests, also if their connections are gone.
func TestP27_1JoinFull(t *testing.T) {
	w := lay(t, config())
	for n := range 16 {
		does(t, w, join("ann", "pencil", "", "s"))
		if w.Guests() != n+1 {
			t.Error(w.Guests())
		}
	}
	for n := range 16 {
		for _, a := range []world.Act{join("ann", "pencil", "", "s"), join("", "", "", "s"), join("ann", "pencil", "", ""), join("\xff", "pencil", "", "")} {
			fruitless(t, w, a, api.ErrFull)
		}
		does(t, w, world.Act{Kind: world.Bye, Who: n})
	}
	fruitless(t, w, join("ann", "pencil", "", "s"), api.ErrFull)
}

// If the administrator has taken the gate's box away, nobody can join.
func TestP27_1JoinBox(t *testing.T) {
	w := lay(t, config())
	b := w.Gate().Hands().Box
	w.Gate().Hands().Box = nil
	fruitless(t, w, join("ann", "pencil", "", ""), api.ErrNone)
	w.Gate().Hands().Box = b
	does(t, w, join("ann", "pencil", "", "s"))
}

// Begin and Request pass a draw: the letter d and the number of draws so far. It remains there if the guest returns an error.
func TestP27_1Draws(t *testing.T) {
	w := lay(t, config())
	for n := range 6 {
		does(t, w, join("ann", "pencil", "", fmt.Sprint(n)))
	}
	says(t, w, world.Act{Kind: world.Begin, Text: "abc"}, api.OK, packed(first, "n,,n=ann,r=abc"))
	says(t, w, world.Act{Kind: world.Request, Who: 1, Text: "web:80"}, api.OK, packed(ask, "CONNECT web:80 HTTP/1.1\r\n\r\n"))
	if w.Gate().Draws() != 0 {
		t.Error(w.Gate().Draws())
	}
	says(t, w, world.Act{Kind: world.Begin, Who: 2, Text: ","}, api.ErrForm)
	says(t, w, world.Act{Kind: world.Request, Who: 2, Text: "web"}, api.ErrForm)
	says(t, w, world.Act{Kind: world.Begin, Text: "abc"}, api.ErrState)
	says(t, w, world.Act{Kind: world.Request, Who: 1, Text: "web:80"}, api.ErrState)
	if w.Gate().Draws() != 4 {
		t.Error(w.Gate().Draws())
	}
	does(t, w, world.Act{Kind: world.Begin, Who: 2, Text: "abc"}, world.Act{Kind: world.Request, Who: 3, Text: "web:80"}, world.Act{Kind: world.Hear, N: 1}, world.Act{Kind: world.Begin, Who: 4, Text: "x"})
	want := []string{"d1.0000000000000001", "d2.0000000000000002", "d3.0000000000000003", "d4.0000000000000004", "d5.0000000000000005"}
	var got []string
	for e := range w.Gate().Hands().Nonces.Entries() {
		got = append(got, e.Nonce)
	}
	if !slices.Equal(got, want) {
		t.Errorf("%q", got)
	}
}

// The gate keeps 16 draws; those that it refuses are counted, so that no draw comes twice.
func TestP27_1DrawsFull(t *testing.T) {
	w := lay(t, config())
	does(t, w, join("ann", "pencil", "", "s"), join("ann", "pencil", "", "b"))
	for range 20 {
		says(t, w, world.Act{Kind: world.Begin, Text: ""}, api.ErrForm)
	}
	if w.Gate().Draws() != 16 {
		t.Error(w.Gate().Draws())
	}
	for range 16 {
		does(t, w, world.Act{Kind: world.Raw, Data: packed(first, "n,,n=ann,r=abc")}, world.Act{Kind: world.Raw, Data: packed(final, "x")})
	}
	does(t, w, world.Act{Kind: world.Begin, Who: 1, Text: "abc"})
	if r, e := nonceOf(w, 1); !strings.HasPrefix(r, "d21.") {
		t.Error(r, e)
	}
}

// nonceOf returns the gate's part of the challenge that guest n, who began with abc, was sent last.
func nonceOf(w *world.World, n int) (string, bool) {
	out, ok := "", false
	for conn, p := range w.Heard() {
		text, has := strings.CutPrefix(string(p[3:]), "r=abc")
		if conn == w.Conn(n) && p[0] == say && has {
			out, _, ok = strings.Cut(text, ",")
		}
	}
	return out, ok
}

// Request has the cnonce c.
func TestP27_1Request(t *testing.T) {
	w := lay(t, config())
	does(t, w, join("ann", "pencil", "dev", "s"), world.Act{Kind: world.Request, Text: "web:80"}, world.Act{Kind: world.Hear})
	last := ""
	for _, p := range w.Said() {
		last = string(p)
	}
	if !strings.Contains(last, `, cnonce="c", `) || !strings.Contains(last, `uri="web:80"`) || !strings.Contains(last, "X-Role: dev\r\n") {
		t.Errorf("%q", last)
	}
	if w.Guest(0).State() != guest.Waiting || w.Waits(0) != 1 {
		t.Error(look(w))
	}
	does(t, w, world.Act{Kind: world.Hear})
	if w.Guest(0).State() != guest.Open {
		t.Error(look(w))
	}
}

// Show, Open, Send and Bye call the guest, and what it sends reaches the gate at once. Its errors are those of the act.
func TestP27_1Speak(t *testing.T) {
	w := lay(t, config())
	does(t, w, join("ann", "pencil", "dev", "s"), join("ann", "wrong", "", "b"), join("bob", "secret", "", "c"))
	for _, a := range []world.Act{{Kind: world.Open, Text: "web:80"}, {Kind: world.Send, Data: []byte("x")}} {
		fruitless(t, w, a, api.ErrState)
	}
	fruitless(t, w, world.Act{Kind: world.Show}, api.ErrNone)
	enter(t, w, 0)
	fruitless(t, w, world.Act{Kind: world.Show}, api.ErrState)
	fruitless(t, w, world.Act{Kind: world.Open, Text: "web"}, api.ErrForm)
	fruitless(t, w, world.Act{Kind: world.Send}, api.ErrState)
	says(t, w, world.Act{Kind: world.Open, Text: "db:80"}, api.OK, packed(open, "db:80"))
	if v, _ := w.Gate().Look(1); v.State != isOpen || v.Target != "db:80" || w.Waits(0) != 1 || w.Guest(0).State() != guest.In {
		t.Error(look(w))
	}
	w.Calm(1)
	says(t, w, world.Act{Kind: world.Send, Data: []byte("ab")}, api.OK, packed(data, "ab"))
	says(t, w, world.Act{Kind: world.Send}, api.OK, packed(data, ""))
	says(t, w, world.Act{Kind: world.Send, Data: []byte("c\x00")}, api.OK, packed(data, "c\x00"))
	fruitless(t, w, world.Act{Kind: world.Send, Data: make([]byte, 2049)}, api.ErrLong)
	fruitless(t, w, world.Act{Kind: world.Open, Text: "web:80"}, api.ErrState)
	does(t, w, world.Act{Kind: world.Give, Who: 1})
	says(t, w, world.Act{Kind: world.Show, Who: 1, Text: "x", Data: []byte("x")}, api.OK, packed(show, w.Guest(0).Ticket()))
	if v, _ := w.Gate().Look(2); v.State != isIn || v.Who.User != "ann" || w.Waits(1) != 0 {
		t.Error(look(w))
	}
	for n := range 3 {
		says(t, w, world.Act{Kind: world.Bye, Who: n}, api.OK, packed(bye, ""))
		if _, e := w.Gate().Look(n + 1); e != api.ErrNone || w.Guest(n).State() != guest.Gone || w.Waits(n) != 1 || w.Conn(n) != n+1 {
			t.Error(n, look(w))
		}
		fruitless(t, w, world.Act{Kind: world.Bye, Who: n}, api.ErrState)
	}
}

// Hear takes the first frame, passes a draw if N is not 0, and sends the guest's reply.
func TestP27_1Hear(t *testing.T) {
	for _, n := range []uint64{0, 1, 2, 1 << 63, math.MaxUint64} {
		w := lay(t, config())
		does(t, w, join("ann", "pencil", "", "s"), join("ann", "pencil", "", "b"))
		fruitless(t, w, world.Act{Kind: world.Hear, N: n}, api.ErrNone)
		does(t, w, world.Act{Kind: world.Begin, Text: "abc"}, world.Act{Kind: world.Begin, Who: 1, Text: "abc"})
		fruitless(t, w, world.Act{Kind: world.Hear, Who: 2, N: n}, api.ErrArg)
		before := len(listed(w.Said()))
		does(t, w, world.Act{Kind: world.Hear, N: n})
		said := listed(w.Said())[before:]
		if len(said) != 1 || !strings.HasPrefix(said[0], "1 \x03") || w.Guest(0).State() != guest.Proving || w.Guest(1).State() != guest.Asking || w.Waits(1) != 1 {
			t.Fatalf("%q %s", said, look(w))
		}
		draws := 0
		if n != 0 {
			draws = 1
		}
		if w.Gate().Draws() != draws || w.Waits(0) != 2 {
			t.Error(look(w))
		}
		// The verdict and the ticket have no reply.
		says(t, w, world.Act{Kind: world.Hear, N: n}, api.OK)
		if w.Guest(0).State() != guest.In || w.Guest(0).Ticket() != "" || w.Waits(0) != 1 || w.Gate().Draws() != 2*draws {
			t.Error(look(w))
		}
		says(t, w, world.Act{Kind: world.Hear}, api.OK)
		if w.Guest(0).Ticket() == "" || w.Waits(0) != 0 || w.Gate().Draws() != 2*draws {
			t.Error(look(w))
		}
		fruitless(t, w, world.Act{Kind: world.Hear, N: n}, api.ErrNone)
	}
}

// A frame that the guest can't hear remains removed, and the draw remains passed.
func TestP27_1HearErrors(t *testing.T) {
	for _, n := range []uint64{0, 5} {
		w := lay(t, config())
		does(t, w, join("ann", "pencil", "", "s"), world.Act{Kind: world.Begin, Text: "abc"}, world.Act{Kind: world.Raw, Data: packed(hello, "t")}, world.Act{Kind: world.Turn, N: 2})
		says(t, w, world.Act{Kind: world.Hear, N: n}, api.ErrForm)
		if w.Waits(0) != 1 || w.Guest(0).State() != guest.Asking || w.Gate().Draws() != int(min(n, 1)) {
			t.Error(n, look(w))
		}
		says(t, w, world.Act{Kind: world.Hear}, api.OK)
		if w.Waits(0) != 0 || w.Guest(0).Fault() != api.ErrState {
			t.Error(n, look(w))
		}
	}
}

// A draw is passed before the reply, which may need it.
func TestP27_1HearDraws(t *testing.T) {
	for n, want := range []string{"HTTP/1.1 503 Service Unavailable\r\n\r\n", "HTTP/1.1 407 Proxy Authentication Required\r\n"} {
		w := lay(t, config())
		does(t, w, join("ann", "wrong", "", "s"), world.Act{Kind: world.Request, Text: "web:80"}, world.Act{Kind: world.Hear, N: uint64(n)})
		last := ""
		for _, p := range w.Heard() {
			last = string(p)
		}
		if last[0] != answer || !strings.HasPrefix(last[3:], want) || w.Gate().Draws() != 0 {
			t.Errorf("%d %q", n, last)
		}
	}
}

// Lose removes the first frame, which the guest never hears.
func TestP27_1Lose(t *testing.T) {
	w := lay(t, config())
	does(t, w, join("ann", "pencil", "", "s"), join("bob", "secret", "", "b"))
	fruitless(t, w, world.Act{Kind: world.Lose}, api.ErrNone)
	does(t, w, world.Act{Kind: world.Raw, Data: slices.Concat(packed(hello, "t"), packed(12, "t"))}, world.Act{Kind: world.Raw, Who: 1, Data: packed(open, "")})
	heard := listed(w.Heard())
	says(t, w, world.Act{Kind: world.Lose, N: 7}, api.OK)
	if w.Waits(0) != 1 || w.Waits(1) != 1 || w.Guest(0).Fault() != api.OK || w.Gate().Draws() != 0 {
		t.Error(look(w))
	}
	does(t, w, world.Act{Kind: world.Hear})
	if w.Guest(0).Fault() != api.ErrForm || w.Waits(0) != 0 || w.Waits(1) != 1 {
		t.Error(look(w))
	}
	fruitless(t, w, world.Act{Kind: world.Lose}, api.ErrNone)
	if !slices.Equal(listed(w.Heard()), heard) {
		t.Error(look(w))
	}
}

// Turn flips the lowest bit of one byte of the first frame. What the gate has sent stays what it was.
func TestP27_1Turn(t *testing.T) {
	for _, n := range []uint64{3, 7, 3 + 4*1000, math.MaxUint64} {
		w := lay(t, config())
		does(t, w, join("ann", "pencil", "", "s"))
		fruitless(t, w, world.Act{Kind: world.Turn, N: n}, api.ErrNone)
		does(t, w, world.Act{Kind: world.Raw, Data: slices.Concat(packed(hello, "t"), packed(hello, "t"))})
		fruitless(t, w, world.Act{Kind: world.Turn, N: n}, api.OK)
		does(t, w, world.Act{Kind: world.Hear})
		if w.Waits(0) != 1 || w.Guest(0).Fault() != api.ErrState^1 {
			t.Error(n, look(w))
		}
		does(t, w, world.Act{Kind: world.Hear})
		if w.Guest(0).Fault() != api.ErrState {
			t.Error(n, look(w))
		}
	}
}

// Each byte of a frame can be turned, and turned back.
func TestP27_1TurnBytes(t *testing.T) {
	const size = 3 + len("r=abcd1.0000000000000001,s=AQI=,i=2")
	for n := range uint64(2 * size) {
		w := lay(t, config())
		does(t, w, join("ann", "pencil", "", "s"), world.Act{Kind: world.Begin, Text: "abc"}, world.Act{Kind: world.Turn, N: n})
		p := []byte(nil)
		for _, q := range w.Heard() {
			p = q
		}
		if len(p) != size {
			t.Fatalf("%q", p)
		}
		p[n%uint64(size)] ^= 1
		twin, _ := guest.Make(w.Gate().Hands().Box, api.Who{Tenant: "t", User: "ann"}, "pencil")
		twin.Hello()
		twin.Begin("abc")
		reply, want := twin.Hear(p)
		var wanted [][]byte
		if reply != nil {
			wanted = append(wanted, reply)
		}
		says(t, w, world.Act{Kind: world.Hear}, want, wanted...)
		if w.Guest(0).State() != twin.State() {
			t.Error(n, look(w))
		}

		w = lay(t, config())
		does(t, w, join("ann", "pencil", "", "s"), world.Act{Kind: world.Begin, Text: "abc"}, world.Act{Kind: world.Turn, N: n}, world.Act{Kind: world.Turn, N: n + uint64(size)})
		w.Calm(200)
		if w.Guest(0).State() != guest.In {
			t.Error(n, look(w))
		}
	}
}

// Raw sends anything but nothing on the guest's connection, also if the gate has removed it.
func TestP27_1Raw(t *testing.T) {
	w := lay(t, config())
	does(t, w, join("ann", "pencil", "", "s"), join("bob", "secret", "", "b"))
	for _, p := range [][]byte{nil, {}} {
		fruitless(t, w, world.Act{Kind: world.Raw, Data: p, Text: "x", N: 9}, api.OK)
	}
	p := packed(hello, "t")
	for _, piece := range [][]byte{p[:1], p[1:3], p[3:]} {
		says(t, w, world.Act{Kind: world.Raw, Who: 1, Data: piece, Text: "x", N: 9}, api.OK, piece)
	}
	if w.Waits(0) != 0 || w.Waits(1) != 1 || w.Gate().Draws() != 0 {
		t.Error(look(w))
	}
	says(t, w, world.Act{Kind: world.Raw, Who: 1, Data: []byte{99, 0, 0}}, api.OK, []byte{99, 0, 0})
	if _, e := w.Gate().Look(2); e != api.ErrNone || w.Waits(1) != 2 || w.Conn(1) != 2 {
		t.Error(look(w))
	}
	heard := listed(w.Heard())
	says(t, w, world.Act{Kind: world.Raw, Who: 1, Data: p}, api.OK, p)
	says(t, w, world.Act{Kind: world.Begin, Who: 1, Text: "abc"}, api.OK, packed(first, "n,,n=bob,r=abc"))
	if !slices.Equal(listed(w.Heard()), heard) {
		t.Error(look(w))
	}
	if want := []string{"2 \x0f\x00\x01\x0e", "2 \x0f\x00\x01\x01"}; !slices.Equal(heard, want) {
		t.Errorf("%q", heard)
	}
}

// Pull lets the upstream server receive, and Push lets it send.
func TestP27_1PullPush(t *testing.T) {
	w := lay(t, config())
	does(t, w, join("ann", "pencil", "dev", "s"), join("ann", "pencil", "dev", "s"))
	for _, kind := range []int{world.Pull, world.Push} {
		fruitless(t, w, world.Act{Kind: kind, N: 9, Data: []byte("x")}, api.ErrState)
		fruitless(t, w, world.Act{Kind: kind}, api.ErrState)
	}
	through(t, w, 0)
	through(t, w, 1)
	fruitless(t, w, world.Act{Kind: world.Pull, N: 9}, api.OK)
	fruitless(t, w, world.Act{Kind: world.Push, N: 9}, api.OK)
	does(t, w, world.Act{Kind: world.Send, Data: []byte("abcdefgh")}, world.Act{Kind: world.Send, Who: 1, Data: []byte("xyz")})
	for _, c := range []struct {
		n    uint64
		want string
	}{{0, ""}, {1, "a"}, {2, "abc"}, {0, "abc"}, {1 << 62, "abcdefgh"}, {math.MaxUint64, "abcdefgh"}} {
		says(t, w, world.Act{Kind: world.Pull, N: c.n}, api.OK)
		if string(w.Got(0)) != c.want || w.Got(1) != nil || w.Waits(0) != 0 {
			t.Error(c, look(w))
		}
	}
	does(t, w, world.Act{Kind: world.Pull, Who: 1, N: 99})
	if string(w.Got(0)) != "abcdefgh" || string(w.Got(1)) != "xyz" {
		t.Error(look(w))
	}

	long := strings.Repeat("0123456789", 60)
	grown(t, func() []string { return listed(w.Heard()) }, func() { says(t, w, world.Act{Kind: world.Push, Data: []byte(long)}, api.OK) },
		"1 "+string(packed(sent, long[:512])), "1 "+string(packed(sent, long[512:])))
	if w.Waits(0) != 2 || w.Waits(1) != 0 || len(w.Guest(0).Got()) != 0 {
		t.Error(look(w))
	}
	does(t, w, world.Act{Kind: world.Hear})
	if string(w.Guest(0).Got()) != long[:512] {
		t.Error(look(w))
	}
	w.Calm(1)
	if string(w.Guest(0).Got()) != long || len(w.Guest(1).Got()) != 0 || w.Gate().Now() != 0 {
		t.Error(look(w))
	}
	does(t, w, world.Act{Kind: world.Bye})
	for _, kind := range []int{world.Pull, world.Push} {
		fruitless(t, w, world.Act{Kind: kind, N: 9, Data: []byte("x")}, api.ErrNone)
		does(t, w, world.Act{Kind: kind, Who: 1})
	}
	if string(w.Got(0)) != "abcdefgh" {
		t.Error(look(w))
	}
}

// Tick advances the time, to MaxTick at most.
func TestP27_1Tick(t *testing.T) {
	w := made(t, config())
	want := uint64(0)
	for _, n := range []uint64{0, 1, 5, 1 << 30, 1 << 39} {
		does(t, w, world.Act{Kind: world.Tick, N: n, Text: "x"})
		if want += n; w.Gate().Now() != want {
			t.Error(n, w.Gate().Now())
		}
	}
	does(t, w, world.Act{Kind: world.Tick, N: math.MaxUint64})
	if w.Gate().Now() != api.MaxTick || w.Gate().Trace().Last() != 0 {
		t.Error(look(w))
	}
}

// The administrator sends a line; the errors are the gate's.
func TestP27_1Admin(t *testing.T) {
	w := made(t, config())
	for _, c := range []struct {
		line string
		want api.Errno
	}{
		{"tenant-add t", api.OK}, {"tenant-add t", api.ErrExists}, {"tenant-add", api.ErrArg}, {"", api.ErrForm}, {"nothing", api.ErrNone}, {"user-drop t eve", api.ErrNone},
		{"key-retire 7", api.ErrKey}, {strings.Repeat("x", 4097), api.ErrLong}, {"policy x", api.ErrForm}, {"tenant-add T", api.ErrSign}, {"ungrant t ann dev", api.ErrNone},
		{"user-add t ann pencil 01 2", api.OK}, {"ungrant t ann dev", api.ErrDenied}, {"show-user t ann", api.OK},
	} {
		fails(t, w, world.Act{Kind: world.Admin, Text: c.line, Data: []byte("x"), N: 9}, c.want)
	}
	if !w.Gate().Hands().Users.Current("t", "ann", 1) || len(listed(w.Said()))+len(listed(w.Heard())) != 0 {
		t.Error(look(w))
	}
}

// Give hands over the ticket of another guest, whatever it is.
func TestP27_1Give(t *testing.T) {
	w := lay(t, config())
	for _, n := range []uint64{0, 1, math.MaxUint64} {
		fruitless(t, w, world.Act{Kind: world.Give, N: n}, api.ErrArg)
	}
	does(t, w, join("ann", "pencil", "dev", "s"), join("ann", "x", "", "s"), join("bob", "x", "", "s"))
	for _, n := range []uint64{3, 16, 1 << 32, 1 << 63, math.MaxUint64} {
		fruitless(t, w, world.Act{Kind: world.Give, N: n}, api.ErrArg)
	}
	enter(t, w, 0)
	held := w.Guest(0).Ticket()
	if held == "" {
		t.Fatal(look(w))
	}
	says(t, w, world.Act{Kind: world.Give, Who: 2, N: 0}, api.OK)
	if w.Guest(2).Ticket() != held || w.Guest(1).Ticket() != "" || w.Guest(0).Ticket() != held || w.Guest(2).State() != guest.Here {
		t.Error(look(w))
	}
	does(t, w, world.Act{Kind: world.Give, Who: 2, N: 1})
	if w.Guest(2).Ticket() != "" || w.Guest(0).Ticket() != held {
		t.Error(look(w))
	}
	does(t, w, world.Act{Kind: world.Give, Who: 0, N: 0})
	if w.Guest(0).Ticket() != held {
		t.Error(look(w))
	}
}

// errors returns n frames that are not of the state known, to each of which the gate sends an error.
func errors(n int) []byte {
	return bytes.Repeat(packed(hello, "t"), n)
}

// Calm runs as many rounds as it takes, and at most as many as it may.
func TestP27_1Calm(t *testing.T) {
	w := lay(t, config())
	for _, most := range []int{0, 1, 200, -1, math.MinInt, math.MaxInt} {
		if n := w.Calm(most); n != 0 {
			t.Error(most, n)
		}
	}
	does(t, w, join("ann", "pencil", "", "s"), join("bob", "secret", "", "b"), join("eve", "x", "", "c"))
	does(t, w, world.Act{Kind: world.Raw, Data: errors(450)}, world.Act{Kind: world.Raw, Who: 2, Data: errors(3)})
	for _, c := range []struct{ most, rounds, first, third int }{
		{-5, 0, 450, 3}, {0, 0, 450, 3}, {math.MinInt, 0, 450, 3}, {1, 1, 449, 2}, {5, 5, 444, 0}, {199, 199, 245, 0}, {201, 200, 45, 0}, {44, 44, 1, 0}, {math.MaxInt, 1, 0, 0}, {9, 0, 0, 0},
	} {
		if n := w.Calm(c.most); n != c.rounds || w.Waits(0) != c.first || w.Waits(1) != 0 || w.Waits(2) != c.third {
			t.Error(c, n, w.Waits(0), w.Waits(2))
		}
	}
	does(t, w, world.Act{Kind: world.Raw, Data: errors(201)})
	if n := w.Calm(200); n != 200 || w.Waits(0) != 1 {
		t.Error(n, w.Waits(0))
	}
}

// Each round hears one frame of each guest that has one, with a draw, by index.
func TestP27_1CalmRounds(t *testing.T) {
	w := lay(t, config())
	for n := range 4 {
		does(t, w, join("ann", "pencil", "", fmt.Sprint(n)))
	}
	for n := range 3 {
		does(t, w, world.Act{Kind: world.Request, Who: 2 - n, Text: "web:80"})
	}
	does(t, w, world.Act{Kind: world.Begin, Who: 3, Text: "abc"})
	before := len(listed(w.Said()))
	if n := w.Calm(1); n != 1 || w.Gate().Draws() != 4 {
		t.Error(n, look(w))
	}
	said := listed(w.Said())[before:]
	if len(said) != 4 {
		t.Fatalf("%q", said)
	}
	for n, line := range said {
		if !strings.HasPrefix(line, fmt.Sprint(n+1, " ")) || w.Waits(n) != []int{1, 1, 1, 2}[n] {
			t.Error(n, line, w.Waits(n))
		}
	}
	if n := w.Calm(200); n != 2 || w.Gate().Draws() != 9 {
		t.Error(n, look(w))
	}
	for n := range 4 {
		if w.Guest(n).State() != []int{guest.Open, guest.Open, guest.Open, guest.In}[n] {
			t.Error(n, look(w))
		}
	}
}

// A frame that can't be heard doesn't stop Calm.
func TestP27_1CalmErrors(t *testing.T) {
	w := lay(t, config())
	does(t, w, join("ann", "pencil", "", "s"), join("bob", "secret", "", "b"), world.Act{Kind: world.Raw, Data: errors(3)}, world.Act{Kind: world.Begin, Who: 1, Text: "abc"}, world.Act{Kind: world.Turn, N: 0}, world.Act{Kind: world.Turn, N: 2})
	if n := w.Calm(200); n != 3 || w.Waits(0) != 0 || w.Guest(1).State() != guest.In || w.Guest(0).Fault() != api.ErrState {
		t.Error(n, look(w))
	}
}

// The gate and the guests are the world's own: what is done to them is done in the world.
func TestP27_2Own(t *testing.T) {
	w := lay(t, config())
	if w.Gate() == nil || w.Gate() != w.Gate() {
		t.Fatal("the gate is not the same")
	}
	for n := range 3 {
		does(t, w, join("ann", "pencil", "", "s"))
		for m := -1; m <= n+1; m++ {
			if c := w.Guest(m); (c == nil) != (m < 0 || m > n) || c != w.Guest(m) || m > 0 && c != nil && c == w.Guest(m-1) {
				t.Error(n, m, c)
			}
		}
	}
	w.Gate().Step(gate.Input{Kind: gate.Tick, Ticks: 7})
	w.Gate().Step(gate.Input{Kind: gate.Hang, Conn: 2})
	w.Gate().Hands().Users.Drop("t", "bob")
	w.Guest(0).SetTicket("x")
	w.Guest(1).Bye()
	if w.Gate().Now() != 7 || w.Guest(0).Ticket() != "x" {
		t.Error(look(w))
	}
	fails(t, w, world.Act{Kind: world.Bye, Who: 1}, api.ErrState)
	fails(t, w, world.Act{Kind: world.Pull, Who: 1}, api.ErrNone)
	fails(t, w, world.Act{Kind: world.Admin, Text: "show-user t bob"}, api.ErrNone)
	says(t, w, world.Act{Kind: world.Show}, api.OK, packed(show, "x"))
}

// There are no guests but those that have joined.
func TestP27_2None(t *testing.T) {
	w := lay(t, config())
	for guests := range 3 {
		for _, n := range []int{-1, math.MinInt, guests, guests + 1, 16, math.MaxInt} {
			if w.Guest(n) != nil || w.Conn(n) != 0 || w.Waits(n) != 0 || w.Got(n) != nil {
				t.Error(guests, n)
			}
		}
		if w.Guests() != guests {
			t.Error(w.Guests())
		}
		does(t, w, join("ann", "pencil", "", "s"))
	}
}

// The numbers of connections are the gate's, also if others have dialed.
func TestP27_2Conn(t *testing.T) {
	w := lay(t, config())
	w.Gate().Step(gate.Input{Kind: gate.Dial, Source: "x"})
	does(t, w, join("ann", "pencil", "", "s"))
	w.Gate().Step(gate.Input{Kind: gate.Dial, Source: "x"})
	w.Gate().Step(gate.Input{Kind: gate.Hang, Conn: 3})
	does(t, w, join("bob", "secret", "", "b"))
	if w.Conn(0) != 2 || w.Conn(1) != 4 {
		t.Error(w.Conn(0), w.Conn(1))
	}
	through(t, w, 0)
	enter(t, w, 1)
	for conn := range w.Said() {
		if conn != 2 && conn != 4 {
			t.Error(conn)
		}
	}
}

// Said and Heard tell everything that went over the connections, in order.
func TestP27_2Traffic(t *testing.T) {
	w := lay(t, config())
	if len(listed(w.Heard()))+len(listed(w.Said())) != 0 {
		t.Error(look(w))
	}
	does(t, w, join("ann", "pencil", "dev", "s"), join("bob", "secret", "", "b"))
	does(t, w, world.Act{Kind: world.Begin, Who: 1, Text: "abc"}, world.Act{Kind: world.Request, Text: "web:80"}, world.Act{Kind: world.Raw, Who: 1, Data: []byte{99, 0}})
	w.Calm(200) // bob's connection breaks by the next byte, which is the first one of his client final
	does(t, w, world.Act{Kind: world.Send, Data: []byte("up")}, world.Act{Kind: world.Push, Data: []byte("down")}, world.Act{Kind: world.Pull, N: 9}, world.Act{Kind: world.Bye})
	var said, heard []string
	for conn, p := range w.Said() {
		said = append(said, fmt.Sprint(conn, " ", p[0]))
	}
	for conn, p := range w.Heard() {
		heard = append(heard, fmt.Sprint(conn, " ", p[0]))
		if _, n, e := frame.Unpack(p); n != len(p) || e != api.OK {
			t.Errorf("%q", p)
		}
	}
	if want := []string{"1 1", "2 1", "2 2", "1 4", "2 99", "1 4", "2 3", "1 7", "1 8"}; !slices.Equal(said, want) {
		t.Errorf("%q", said)
	}
	if want := []string{"2 9", "1 10", "1 10", "2 15", "1 13", "1 14"}; !slices.Equal(heard, want) {
		t.Errorf("%q", heard)
	}
}

// The iterators yield what there is when the iteration begins, each time anew, and stop when they are stopped.
func TestP27_2Iterators(t *testing.T) {
	w := lay(t, config())
	does(t, w, join("ann", "pencil", "", "s"), world.Act{Kind: world.Raw, Data: errors(4)}, world.Act{Kind: world.Raw, Data: errors(1)})
	heard, said := w.Heard(), w.Said()
	does(t, w, world.Act{Kind: world.Raw, Data: errors(1)}) // which is there when the iteration begins
	for what, all := range map[string]func(func(int, []byte) bool){"heard": heard, "said": said} {
		want := listed(all)
		if len(want) != map[string]int{"heard": 6, "said": 4}[what] {
			t.Errorf("%s %q", what, want)
		}
		for stop := range want {
			n := 0
			for range all {
				if n++; n > stop {
					break
				}
			}
			if n != stop+1 {
				t.Error(what, stop, n)
			}
		}
		var outer []string
		for conn, p := range all {
			outer = append(outer, fmt.Sprint(conn, " ", string(p)))
			if !slices.Equal(listed(all), want) {
				t.Error(what)
			}
		}
		if !slices.Equal(outer, want) {
			t.Errorf("%s %q, not %q", what, outer, want)
		}
	}
	n := 0
	for range heard {
		if n++; n > 99 {
			t.Fatal("what comes meanwhile is yielded")
		}
		does(t, w, world.Act{Kind: world.Raw, Data: errors(1)})
	}
	if n != 6 || len(listed(heard)) != 12 {
		t.Error(n, len(listed(heard)))
	}
	n = 0
	for range said {
		if n++; n > 99 {
			t.Fatal("what comes meanwhile is yielded")
		}
		does(t, w, world.Act{Kind: world.Raw, Data: errors(1)})
	}
	if n != 10 || len(listed(said)) != 20 {
		t.Error(n, len(listed(said)))
	}
}

// Results are new memory, and arguments are neither changed nor kept.
func TestP27_2Memory(t *testing.T) {
	w := lay(t, config())
	does(t, w, join("ann", "pencil", "dev", "s"))
	through(t, w, 0)
	for _, kind := range []int{world.Raw, world.Send, world.Push} {
		p := append(make([]byte, 0, 64), packed(data, "abc")...)
		spare := p[:cap(p)]
		for i := len(p); i < len(spare); i++ {
			spare[i] = 'x'
		}
		kept := slices.Clone(spare)
		does(t, w, world.Act{Kind: kind, Data: p})
		if !bytes.Equal(spare, kept) {
			t.Error(kind, "the argument has changed")
		}
		before := look(w)
		for i := range spare {
			spare[i] = 99
		}
		if look(w) != before {
			t.Error(kind, "the argument was kept")
		}
	}
	does(t, w, world.Act{Kind: world.Pull, N: 5})
	before := look(w)
	for range 2 {
		p := w.Got(0)
		for i := range p[:cap(p)] {
			p[:cap(p)][i] = 99
		}
		for _, all := range []func(func(int, []byte) bool){w.Heard(), w.Said()} {
			for _, p := range all {
				for i := range p[:cap(p)] {
					p[:cap(p)][i] = 99
				}
			}
		}
		if look(w) != before {
			t.Fatal("a result was kept")
		}
	}
	w.Calm(200)
	if got := string(w.Guest(0).Got()); got != string(packed(data, "abc")) {
		t.Errorf("%q", got)
	}
	does(t, w, world.Act{Kind: world.Pull, N: 99})
	if got := string(w.Got(0)); got != "abc"+string(packed(data, "abc")) {
		t.Errorf("%q", got)
	}
}

// A nil world has nothing and does nothing.
func TestP27_2Nil(t *testing.T) {
	var w *world.World
	for _, kind := range append([]int{0, 17, -1, math.MaxInt}, kinds...) {
		for _, who := range []int{0, -1, 99} {
			if e := w.Do(world.Act{Kind: kind, Who: who}); e != api.ErrNone {
				t.Error(kind, who, e)
			}
		}
	}
	for _, n := range []int{-1, 0, 1, 200} {
		if w.Calm(n) != 0 || w.Guest(n) != nil || w.Conn(n) != 0 || w.Waits(n) != 0 || w.Got(n) != nil {
			t.Error(n)
		}
	}
	if w.Gate() != nil || w.Guests() != 0 || w.Heard() == nil || w.Said() == nil || len(listed(w.Heard()))+len(listed(w.Said())) != 0 {
		t.Error("a nil world has something")
	}
}
