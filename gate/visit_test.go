package gate_test

import (
	"fmt"
	"math"
	"reflect"
	"slices"
	"strings"
	"testing"

	"ostiary/api"
	"ostiary/b64"
	"ostiary/frame"
	"ostiary/gate"
	"ostiary/scram"
	"ostiary/ticket"
)

// A frame of each kind that a client may send, in the one state where it belongs.
var belongs = map[byte]int{hello: isFresh, first: isKnown, final: isAsked, ask: isKnown, show: isKnown, open: isIn, data: isOpen}

// In another state a frame is ErrState, and nothing else happens, whatever is in it.
func TestP25_1States(t *testing.T) {
	bodies := []string{"", "t", "n,,n=ann,r=abc", "web:80", "CONNECT web:80 HTTP/1.1\r\n\r\n", "x"}
	for kind, own := range belongs {
		for state := isFresh; state <= isOpen; state++ {
			if state == own {
				continue
			}
			g := lay(t, config())
			conn := inState(t, g, "s", state)
			draw(t, g, "d")
			for _, body := range bodies {
				before := all(g)
				sends(t, g, conn, kind, body, number(api.ErrState))
				if all(g) != before {
					t.Errorf("frame %d in state %d changes something", kind, state)
				}
			}
		}
	}
}

// A frame that only the gate may send is ErrForm, in every state.
func TestP25_1OtherKinds(t *testing.T) {
	for state := isFresh; state <= isOpen; state++ {
		g := lay(t, config())
		conn := inState(t, g, "s", state)
		for kind := byte(9); kind <= 15; kind++ {
			for _, body := range []string{"", "t", strings.Repeat("x", 2048)} {
				before := all(g)
				sends(t, g, conn, kind, body, number(api.ErrForm))
				if all(g) != before {
					t.Errorf("frame %d in state %d changes something", kind, state)
				}
			}
		}
	}
}

// Frames may come in any pieces, and several at once.
func TestP25_1Pieces(t *testing.T) {
	stream := slices.Concat(packed(t, 9, ""), packed(t, hello, "t"), packed(t, hello, "t"), packed(t, open, strings.Repeat("x", 2048)), packed(t, 4, ""))
	want := []said{number(api.ErrForm), number(api.ErrState), number(api.ErrState)}
	for size := 1; size < len(stream)+1; size = size*3/2 + 1 {
		g := lay(t, config())
		conn := dial(t, g, "s")
		var got []said
		logs(t, g, func() {
			for part := range slices.Chunk(stream, size) {
				kept := slices.Clone(part)
				got = append(got, pass(t, g, conn, part)...)
				if !slices.Equal(part, kept) {
					t.Error("the bytes have changed")
				}
			}
		}, fmt.Sprint("hello ", conn, " t"))
		if len(got) != 4 || !slices.Equal(got[:3], want) || got[3].kind != answer {
			t.Errorf("pieces of %d: %q", size, got)
		}
	}
}

// More bytes than a reader holds are frames as well.
func TestP25_1Long(t *testing.T) {
	g := lay(t, config())
	conn := dial(t, g, "s")
	var stream []byte
	for range 1000 {
		stream = append(stream, packed(t, 9, strings.Repeat("x", 777))...)
	}
	stream = append(stream, packed(t, hello, "t")...)
	logs(t, g, func() {
		if l := pass(t, g, conn, stream); len(l) != 1000 || l[0] != number(api.ErrForm) || l[999] != number(api.ErrForm) {
			t.Error(len(l))
		}
	}, fmt.Sprint("hello ", conn, " t"))
	if l := pass(t, g, conn, nil); len(l) != 0 {
		t.Error(l)
	}
}

// However many bytes follow, none is a frame any more once the connection was removed.
func TestP25_1LongGone(t *testing.T) {
	rest := slices.Repeat(packed(t, 9, "x"), 20000)
	for _, end := range [][]byte{packed(t, bye, ""), {99, 0, 0}} {
		g := lay(t, config())
		conn := dial(t, g, "s")
		if l := pass(t, g, conn, slices.Concat(end, rest)); len(l) != 1 {
			t.Error(len(l))
		}
		isGone(t, g, conn)
	}
}

// The bytes that the caller passed may be overwritten afterwards.
func TestP25_1InputMemory(t *testing.T) {
	g := lay(t, config())
	conn := tunnel(t, g, "s")
	p := packed(t, data, "hello")
	half := slices.Clone(p[:6])
	pass(t, g, conn, half)
	clear(half)
	rest := slices.Clone(p[6:])
	pass(t, g, conn, rest)
	clear(rest)
	r := g.Step(gate.Input{Kind: gate.Drain, Conn: conn, Ticks: 4})
	if string(r.Out[0].Data) != "hell" {
		t.Fatal(r)
	}
	clear(r.Out[0].Data[:cap(r.Out[0].Data)])
	if r := g.Step(gate.Input{Kind: gate.Drain, Conn: conn, Ticks: 4}); string(r.Out[0].Data) != "o" {
		t.Error(r)
	}
	r = g.Step(gate.Input{Kind: gate.Up, Conn: conn, Data: []byte("abc")})
	clear(r.Out[0].Data[:cap(r.Out[0].Data)])
	r = g.Step(gate.Input{Kind: gate.Up, Conn: conn, Data: []byte("def")})
	if got := heard(t, conn, r.Out); !slices.Equal(got, []said{{sent, "def"}}) {
		t.Error(got)
	}
}

// What breaks the reader is told, and the connection is shut. What came before is processed, what comes behind is not.
func TestP25_1Broken(t *testing.T) {
	tooLong := []byte{1, 8, 1} // 2049 bytes
	for state := isFresh; state <= isOpen; state++ {
		for _, c := range []struct {
			bytes []byte
			want  api.Errno
		}{
			{[]byte{0, 0, 0}, api.ErrArg}, {[]byte{16, 0, 0}, api.ErrArg}, {[]byte{255, 255, 255}, api.ErrArg}, {[]byte{99, 0, 1, 'x'}, api.ErrArg},
			{tooLong, api.ErrLong}, {[]byte{15, 255, 255}, api.ErrLong},
		} {
			g := lay(t, config())
			conn := inState(t, g, "s", state)
			logs(t, g, func() {
				if l := pass(t, g, conn, slices.Concat(packed(t, 9, "a"), c.bytes, packed(t, 9, "b"))); !slices.Equal(l, []said{number(api.ErrForm), number(c.want)}) {
					t.Errorf("%d %v: %q", state, c.bytes, l)
				}
			}, fmt.Sprint("shut ", conn))
			isGone(t, g, conn)
		}
	}
	// Three bytes are needed to tell.
	g := lay(t, config())
	conn := dial(t, g, "s")
	for range 2 {
		if l := pass(t, g, conn, []byte{99}); len(l) != 0 {
			t.Error(l)
		}
	}
	if l := pass(t, g, conn, []byte{99}); !slices.Equal(l, []said{number(api.ErrArg)}) {
		t.Error(l)
	}
	isGone(t, g, conn)
}

func TestP25_1Close(t *testing.T) {
	for state := isFresh; state <= isOpen; state++ {
		for _, body := range []string{"", "x", strings.Repeat("x", 2048)} {
			g := lay(t, config())
			conn := inState(t, g, "s", state)
			stream := slices.Concat(packed(t, bye, body), packed(t, bye, ""), packed(t, 9, ""), []byte{99, 0, 0})
			logs(t, g, func() {
				if l := pass(t, g, conn, stream); !slices.Equal(l, []said{{closed, ""}}) {
					t.Errorf("%d: %q", state, l)
				}
			}, fmt.Sprint("close ", conn))
			isGone(t, g, conn)
		}
	}
}

func TestP25_1Hello(t *testing.T) {
	for _, tenant := range []string{"t", "none", "-", "a_b-9", strings.Repeat("t", 32)} {
		g := lay(t, config())
		conn := dial(t, g, "s")
		logs(t, g, func() { sends(t, g, conn, hello, tenant) }, fmt.Sprint("hello ", conn, " ", tenant))
		looks(t, g, conn, gate.View{Source: "s", State: isKnown, Tenant: tenant})
	}
	for _, tenant := range []string{"", "T", "a b", "ü", "t\n", "t.", strings.Repeat("t", 33), strings.Repeat("t", 2048)} {
		g := lay(t, config())
		conn := dial(t, g, "s")
		before := all(g)
		sends(t, g, conn, hello, tenant, number(api.ErrSign))
		if all(g) != before {
			t.Errorf("%q changes something", tenant)
		}
	}
}

// The example of the chapter.
func TestP25_1Example(t *testing.T) {
	g := lay(t, config())
	conn := dial(t, g, "s")
	sends(t, g, conn, hello, "t")
	draw(t, g, "d")
	sends(t, g, conn, first, "n,,n=ann,r=abc", said{say, "r=abcd.0000000000000001,s=AQ==,i=2"})
}

// A client first leads to a challenge, whoever the user is. Nothing is logged, and the source is tracked.
func TestP25_1First(t *testing.T) {
	for _, user := range []string{"ann", "bob", "eve", "nobody", "\x01"} {
		g := lay(t, config())
		conn := arrive(t, g, "s", "t")
		draw(t, g, "d")
		reads := g.Hands().Users.Reads()
		logs(t, g, func() {
			l := send(t, g, conn, first, "n,,n="+user+",r=abc")
			if len(l) != 1 || l[0].kind != say || !strings.HasPrefix(l[0].body, "r=abcd.0000000000000001,s=") {
				t.Error(user, l)
			}
			if rounds := map[string]string{"bob": "i=3", "ann": "i=2"}[user]; !strings.HasSuffix(l[0].body, rounds) {
				t.Error(user, l)
			}
			if c, e := scram.ParseChallenge(l[0].body); e != api.OK || rune(len(user)) != 3 && c.Iter != 2 {
				t.Error(user, c, e)
			}
		})
		looks(t, g, conn, gate.View{Source: "s", State: isAsked, Tenant: "t"})
		if g.Draws() != 0 || g.Checks() != 0 || fails(g, "s") != 0 || g.Hands().Users.Reads() != reads+1 {
			t.Error(user, all(g))
		}
	}
}

// Without a draw there is no exchange, but the attempt has begun.
func TestP25_1FirstNoDraw(t *testing.T) {
	g := lay(t, config())
	conn := arrive(t, g, "s", "t")
	for _, text := range []string{"n,,n=ann,r=abc", "", "x"} {
		logs(t, g, func() { sends(t, g, conn, first, text, number(api.ErrFull)) })
	}
	looks(t, g, conn, gate.View{Source: "s", State: isKnown, Tenant: "t"})
	if fails(g, "s") != 0 || g.Hands().Users.Reads() != 0 || g.Hands().Nonces.Serial() != 0 {
		t.Error(all(g))
	}
}

// A client first that can't be read fails, but no guess was made.
func TestP25_1FirstErrors(t *testing.T) {
	for text, errno := range map[string]api.Errno{
		"":                                      api.ErrForm,
		"n,,n=ann":                              api.ErrForm,
		"\xff":                                  api.ErrForm,
		"p=x,,n=ann,r=abc":                      api.ErrDenied,
		"n,,m=1,n=ann,r=abc":                    api.ErrDenied,
		"n,,n=ann,r=" + strings.Repeat("r", 47): api.ErrLong,
		"n,,n=ann,r=a,x=" + strings.Repeat("x", 2000) + ",": api.ErrForm,
	} {
		g := lay(t, config())
		conn := arrive(t, g, "s", "t")
		draw(t, g, "d", "e")
		logs(t, g, func() { sends(t, g, conn, first, text, said{say, "e=other-error"}) }, fmt.Sprint("fail ", conn, " ", int(errno)))
		stateIs(t, g, conn, isKnown)
		if g.Draws() != 1 || g.Checks() != 0 || fails(g, "s") != 0 || g.Hands().Users.Reads() != 0 {
			t.Error(text, all(g))
		}
	}
	// A draw that was used before.
	g := lay(t, config())
	conn := arrive(t, g, "s", "t")
	draw(t, g, "d", "d")
	begin(t, g, conn, "n,,", "n=ann,r=abc")
	send(t, g, conn, final, "")
	logs(t, g, func() { sends(t, g, conn, first, "n,,n=ann,r=abc", said{say, "e=other-error"}) }, fmt.Sprint("fail ", conn, " 7"))
	stateIs(t, g, conn, isKnown)
}

// The role is the requested one; if there is none, the user's first. Only for a role that he has there is a ticket.
func TestP25_1Final(t *testing.T) {
	for _, c := range []struct {
		tenant, user, pass, authz, role, text string
		gen                                   uint64
		ticket                                bool
	}{
		{"t", "ann", "pencil", "", "dev", "t 616e6e dev", 3, true},
		{"t", "a\u00adnn", "pen\u00adcil", "", "dev", "t 616e6e dev", 3, true},
		{"t", "ann", "pencil", "dev", "dev", "t 616e6e dev", 3, true},
		{"t", "ann", "pencil", "ops", "ops", "t 616e6e ops", 3, true},
		{"t", "ann", "pencil", "root", "root", "t 616e6e root", 3, false},
		{"t", "ann", "pencil", "Dev", "Dev", "t 616e6e Dev", 3, false},
		{"t", "ann", "pencil", "a b", "a b", "t 616e6e a b", 3, false},
		{"t", "ann", "pencil", "-", "-", "t 616e6e -", 3, false},
		{"t", "ann", "pencil", strings.Repeat("r", 191), strings.Repeat("r", 191), "t 616e6e " + strings.Repeat("r", 191), 3, false},
		{"t", "ann", "pencil", strings.Repeat("r", 192), strings.Repeat("r", 192), "", 3, false}, // the event has no line
		{"t", "bob", "secret", "", "", "t 626f62 -", 4, false},
		{"t", "bob", "secret", "dev", "dev", "t 626f62 dev", 4, false},
		{"u", "ann", "other", "", "dev", "u 616e6e dev", 9, true},
		{"u", "ann", "other", "ops", "ops", "u 616e6e ops", 9, false},
	} {
		for _, symbolic := range []bool{false, true} {
			config := config()
			config.Symbolic = symbolic
			g := lay(t, config)
			tick(t, g, 7)
			conn := arrive(t, g, "s", c.tenant)
			var text string
			want := []string{fmt.Sprint("enter ", conn, " ", c.text)}
			if c.text == "" || len(c.text) > 200 {
				want = nil
			}
			logs(t, g, func() { text = enter(t, g, conn, c.authz, c.user, c.pass) }, want...)
			who := api.Who{Tenant: c.tenant, User: strings.ReplaceAll(c.user, "\u00ad", ""), Role: c.role}
			looks(t, g, conn, gate.View{Source: "s", State: isIn, Tenant: c.tenant, Who: who, Gen: c.gen})
			tickets := uint64(0)
			if c.ticket {
				tickets = 1
			}
			if (text != "") != c.ticket || g.Hands().Tickets.Serial() != tickets || g.Checks() != 1 || fails(g, "s") != -1 {
				t.Error(c, text, g.Checks(), fails(g, "s"))
			}
			if x, e := g.Hands().Tickets.Open(text, 7); c.ticket && (e != api.OK || x.Who != who || x.Gen != c.gen || x.From != 7 || x.To != 27) {
				t.Error(c, x, e)
			}
		}
	}
}

// No ticket can be issued if the newest key was retired, or at the end of time.
func TestP25_1FinalNoTicket(t *testing.T) {
	g := lay(t, config())
	admin(t, g, "key-retire 1", "ok")
	if text := enter(t, g, arrive(t, g, "s", "t"), "", "ann", "pencil"); text != "" {
		t.Error(text)
	}
	g = lay(t, config())
	tick(t, g, api.MaxTick)
	if text := enter(t, g, arrive(t, g, "s", "t"), "", "ann", "pencil"); text != "" {
		t.Error(text)
	}
}

// After a failure the connection is known, and may begin again. The guard counts it if a proof was checked.
func TestP25_1FinalErrors(t *testing.T) {
	head, bare := "n,,", "n=ann,r=abc"
	for name, c := range map[string]struct {
		user    string
		text    func(g *gate.Gate, challenge string) string
		reply   string
		errno   api.Errno
		checked bool
	}{
		"empty":          {"ann", func(*gate.Gate, string) string { return "" }, "e=other-error", api.ErrForm, false},
		"no final":       {"ann", func(*gate.Gate, string) string { return head + bare }, "e=other-error", api.ErrForm, false},
		"with a binding": {"ann", func(*gate.Gate, string) string { return "c=cD14LCw=,r=abcd,p=" + strings.Repeat("A", 43) + "=" }, "e=other-error", api.ErrDenied, false},
		"wrong password": {"ann", func(g *gate.Gate, c string) string { return finalOf(t, g, head, bare, "pen", c) }, "e=invalid-proof", api.ErrProof, true},
		"wrong head":     {"ann", func(g *gate.Gate, c string) string { return finalOf(t, g, "y,,", bare, "pencil", c) }, "e=invalid-proof", api.ErrForm, true},
		"nobody":         {"nobody", func(g *gate.Gate, c string) string { return finalOf(t, g, head, "n=nobody,r=abc", "pencil", c) }, "e=invalid-proof", api.ErrProof, true},
		"revoked":        {"eve", func(g *gate.Gate, c string) string { return finalOf(t, g, head, "n=eve,r=abc", "apple", c) }, "e=invalid-proof", api.ErrProof, true},
		"changed": {"ann", func(g *gate.Gate, c string) string {
			admin(t, g, "restore t ann", "ok")
			return finalOf(t, g, head, bare, "pencil", c)
		}, "e=invalid-proof", api.ErrGone, true},
		"too late": {"ann", func(g *gate.Gate, c string) string {
			tick(t, g, 51)
			return finalOf(t, g, head, bare, "pencil", c)
		}, "e=invalid-proof", api.ErrLate, true},
	} {
		for _, symbolic := range []bool{false, true} {
			config := config()
			config.Symbolic = symbolic
			g := lay(t, config)
			conn := arrive(t, g, "s", "t")
			draw(t, g, "d")
			text := c.text(g, begin(t, g, conn, head, "n="+c.user+",r=abc"))
			logs(t, g, func() { sends(t, g, conn, final, text, said{say, c.reply}) }, fmt.Sprint("fail ", conn, " ", int(c.errno)))
			looks(t, g, conn, gate.View{Source: "s", State: isKnown, Tenant: "t"})
			counted, checks := 0, uint64(0)
			if c.checked {
				counted, checks = 1, 1
			}
			if fails(g, "s") != counted || g.Checks() != checks || g.Hands().Tickets.Serial() != 0 {
				t.Error(name, fails(g, "s"), g.Checks())
			}
			sends(t, g, conn, final, text, number(api.ErrState))
			tick(t, g, 100)
			enter(t, g, conn, "", "ann", "pencil")
		}
	}
}

// A nonce that was spent in another way authenticates nobody.
func TestP25_1FinalSpent(t *testing.T) {
	g := lay(t, config())
	conn := arrive(t, g, "s", "t")
	draw(t, g, "d")
	text := finalOf(t, g, "n,,", "n=ann,r=abc", "pencil", begin(t, g, conn, "n,,", "n=ann,r=abc"))
	if e := g.Hands().Nonces.Spend("d.0000000000000001", 0); e != api.OK {
		t.Fatal(e)
	}
	logs(t, g, func() { sends(t, g, conn, final, text, said{say, "e=invalid-proof"}) }, fmt.Sprint("fail ", conn, " 10"))
	// And what authenticated once does not do so again.
	tick(t, g, 10)
	draw(t, g, "e")
	text = finalOf(t, g, "n,,", "n=ann,r=abc", "pencil", begin(t, g, conn, "n,,", "n=ann,r=abc"))
	if l := send(t, g, conn, final, text); len(l) != 2 {
		t.Fatal(l)
	}
	other := arrive(t, g, "s", "t")
	draw(t, g, "f")
	begin(t, g, other, "n,,", "n=ann,r=abc")
	logs(t, g, func() { sends(t, g, other, final, text, said{say, "e=invalid-proof"}) }, fmt.Sprint("fail ", other, " 4"))
}

// ticketOf returns a ticket of ann's, issued at the present time, and the gate.
func ticketOf(t *testing.T, role string) (*gate.Gate, string) {
	t.Helper()
	return ticketIn(t, lay(t, config()), role)
}

// ticketIn returns a ticket of ann's, issued by this gate at the present time.
func ticketIn(t *testing.T, g *gate.Gate, role string) (*gate.Gate, string) {
	t.Helper()
	conn := arrive(t, g, "s", "t")
	text := enter(t, g, conn, role, "ann", "pencil")
	if text == "" {
		t.Fatal(role)
	}
	g.Step(gate.Input{Kind: gate.Hang, Conn: conn})
	return g, text
}

// A ticket lets its user in without a word, with the role of the ticket.
func TestP25_1Show(t *testing.T) {
	for _, role := range []string{"dev", "ops"} {
		g, text := ticketOf(t, role)
		tick(t, g, 19)
		reads := g.Hands().Users.Reads()
		for range 2 {
			conn := arrive(t, g, "s", "t")
			logs(t, g, func() { sends(t, g, conn, show, text) }, fmt.Sprint("resume ", conn, " t 616e6e ", role))
			looks(t, g, conn, gate.View{Source: "s", State: isIn, Tenant: "t", Who: api.Who{Tenant: "t", User: "ann", Role: role}, Gen: 3})
			if fails(g, "s") != -1 || g.Checks() != 1 || g.Hands().Users.Reads() != reads {
				t.Error(all(g))
			}
		}
	}
}

// Whatever is wrong with a ticket, the client is told the same. What may have been guessed counts.
func TestP25_1ShowErrors(t *testing.T) {
	flip := func(s string) string { // the last character but one, so that no unused bit is set
		at := len(s) - 2
		return s[:at] + string([]byte{"AB"[(s[at]+1)%2]}) + s[at+1:]
	}
	for name, c := range map[string]struct {
		tenant string
		do     func(g *gate.Gate, text string) string
		errno  api.Errno
		counts bool
	}{
		"empty":         {"t", func(*gate.Gate, string) string { return "" }, api.ErrForm, true},
		"no ticket":     {"t", func(*gate.Gate, string) string { return "a.b" }, api.ErrForm, true},
		"no body":       {"t", func(_ *gate.Gate, s string) string { return "AQ" + s[strings.Index(s, "."):] }, api.ErrForm, true},
		"forged":        {"t", func(_ *gate.Gate, s string) string { return forged(t, s) }, api.ErrProof, true},
		"wrong Mac":     {"t", func(_ *gate.Gate, s string) string { return flip(s) }, api.ErrProof, true},
		"long":          {"t", func(_ *gate.Gate, s string) string { return strings.Repeat("A", 2048) }, api.ErrForm, true},
		"late":          {"t", func(g *gate.Gate, s string) string { tick(t, g, 20); return s }, api.ErrLate, false},
		"revoked":       {"t", func(g *gate.Gate, s string) string { admin(t, g, "ticket-revoke 1", "ok"); return s }, api.ErrGone, false},
		"no key":        {"t", func(g *gate.Gate, s string) string { admin(t, g, "key-retire 1", "ok"); return s }, api.ErrKey, false},
		"other tenant":  {"u", func(_ *gate.Gate, s string) string { return s }, api.ErrGone, false},
		"changed":       {"t", func(g *gate.Gate, s string) string { admin(t, g, "restore t ann", "ok"); return s }, api.ErrGone, false},
		"user revoked":  {"t", func(g *gate.Gate, s string) string { admin(t, g, "revoke t ann", "ok"); return s }, api.ErrGone, false},
		"user dropped":  {"t", func(g *gate.Gate, s string) string { admin(t, g, "user-drop t ann", "ok"); return s }, api.ErrGone, false},
		"other role":    {"t", func(g *gate.Gate, s string) string { admin(t, g, "ungrant t ann ops", "ok"); return s }, api.ErrGone, false},
		"role is gone":  {"t", func(g *gate.Gate, s string) string { admin(t, g, "ungrant t ann dev", "ok"); return s }, api.ErrGone, false},
		"other desk":    {"t", func(g *gate.Gate, s string) string { _, s = ticketOf(t, "dev"); return flip(s) }, api.ErrProof, true},
		"other tenants": {"none", func(_ *gate.Gate, s string) string { return s }, api.ErrGone, false},
	} {
		g, text := ticketOf(t, "dev")
		conn := arrive(t, g, "s", c.tenant)
		text = c.do(g, text)
		logs(t, g, func() { sends(t, g, conn, show, text, number(api.ErrDenied)) }, fmt.Sprint("fail ", conn, " ", int(c.errno)))
		looks(t, g, conn, gate.View{Source: "s", State: isKnown, Tenant: c.tenant})
		counted := 0
		if c.counts {
			counted = 1
		}
		if fails(g, "s") != counted || g.Checks() != 1 {
			t.Error(name, fails(g, "s"), g.Checks())
		}
	}
}

// A ticket that is right in every way but one: that its user has lost the role, though his generation is that of the ticket.
func TestP25_1ShowRole(t *testing.T) {
	g := lay(t, config())
	for _, c := range []struct {
		who  api.Who
		gen  uint64
		well bool
	}{
		{api.Who{Tenant: "t", User: "ann", Role: "dev"}, 3, true},
		{api.Who{Tenant: "t", User: "ann", Role: "root"}, 3, false},
		{api.Who{Tenant: "t", User: "ann", Role: "dev"}, 2, false},
		{api.Who{Tenant: "t", User: "bob", Role: "dev"}, 4, false},
		{api.Who{Tenant: "t", User: "eve", Role: "dev"}, 7, false},
		{api.Who{Tenant: "u", User: "ann", Role: "dev"}, 9, false},
	} {
		text, _, e := g.Hands().Tickets.Mint(c.who, c.gen, 0)
		if e != api.OK {
			t.Fatal(e)
		}
		conn := arrive(t, g, "s", "t")
		if c.well {
			sends(t, g, conn, show, text)
			stateIs(t, g, conn, isIn)
		} else {
			logs(t, g, func() { sends(t, g, conn, show, text, number(api.ErrDenied)) }, fmt.Sprint("fail ", conn, " 16"))
			stateIs(t, g, conn, isKnown)
		}
		g.Step(gate.Input{Kind: gate.Hang, Conn: conn})
	}
}

func TestP25_1Open(t *testing.T) {
	for _, c := range []struct {
		role, target string
		may          bool
	}{
		{"dev", "web:80", true}, {"dev", "WEB.x:80", true}, {"dev", "-:80", true}, {"dev", "web:81", false}, {"dev", "bad.x:80", false}, {"dev", "BAD:80", false},
		{"ops", "db:1", true}, {"ops", "db:9999", true}, {"ops", "db:10000", false}, {"ops", "web:80", false}, {"ops", "DB:80", true},
		{"dev", strings.Repeat("h", 32) + ":80", true},
	} {
		g := lay(t, config())
		conn := arrive(t, g, "s", "t")
		enter(t, g, conn, c.role, "ann", "pencil")
		view, _ := g.Look(conn)
		text := "t 616e6e " + c.role + " " + c.target
		if c.may {
			logs(t, g, func() { sends(t, g, conn, open, c.target, said{opened, c.target}) }, fmt.Sprint("open ", conn, " ", text))
			view.State, view.Target = isOpen, c.target
			looks(t, g, conn, view)
			continue
		}
		logs(t, g, func() { sends(t, g, conn, open, c.target, number(api.ErrDenied)) }, fmt.Sprint("deny ", conn, " ", text))
		looks(t, g, conn, view)
		admin(t, g, `policy "allow * * * *"`, "ok")
		sends(t, g, conn, open, c.target, said{opened, c.target})
	}
}

// The policy is asked for the role and the tenant, too.
func TestP25_1OpenPolicy(t *testing.T) {
	for policy, want := range map[string]bool{
		"allow dev t web 80": true, "allow * * * *": true, "allow dev * * *": true, "allow * t * *": true, "allow ops * * *": false, "allow * u * *": false, "allow t dev * *": false,
		"allow * * web.* *": false, "allow * * * 81": false, "deny * * * *": false, "": false, "deny ops t web 80\\nallow dev t * *": true,
	} {
		g := lay(t, config())
		conn := inState(t, g, "s", isIn)
		admin(t, g, `policy "`+policy+`"`, "ok")
		if want {
			sends(t, g, conn, open, "web:80", said{opened, "web:80"})
		} else {
			sends(t, g, conn, open, "web:80", number(api.ErrDenied))
		}
	}
}

// What is no host and port is only an error.
func TestP25_1OpenForm(t *testing.T) {
	g := lay(t, config())
	conn := inState(t, g, "s", isIn)
	admin(t, g, "revoke t ann", "ok") // which comes later
	for _, target := range []string{"", "web", "web:", ":80", "web:0", "web:080", "web:65536", "we b:80", "web:80:80", "web:80 ", "w/:80", strings.Repeat("h", 33) + ":80", strings.Repeat("x", 2048)} {
		before := all(g)
		sends(t, g, conn, open, target, number(api.ErrForm))
		if all(g) != before {
			t.Errorf("%q changes something", target)
		}
	}
}

// Whose credential has changed, or who has not the role, must authenticate again; the policy isn't asked.
func TestP25_1OpenGone(t *testing.T) {
	for _, c := range []struct{ role, line string }{
		{"dev", "revoke t ann"}, {"dev", "restore t ann"}, {"dev", "user-drop t ann"}, {"dev", "tenant-drop t"}, {"dev", "ungrant t ann dev"}, {"dev", "ungrant t ann ops"},
		{"dev", "grant t ann root"}, {"dev", "user-pass t ann pencil 01 2"}, {"root", "count"}, {"Dev", "count"}, {"dev ops", "count"},
	} {
		for _, target := range []string{"web:80", "bad:80"} {
			g := lay(t, config())
			conn := arrive(t, g, "s", "t")
			enter(t, g, conn, c.role, "ann", "pencil")
			g.Step(gate.Input{Kind: gate.Admin, Text: c.line})
			logs(t, g, func() { sends(t, g, conn, open, target, number(api.ErrGone)) }, fmt.Sprint("fail ", conn, " 16"))
			looks(t, g, conn, gate.View{Source: "s", State: isKnown, Tenant: "t"})
			if fails(g, "s") != -1 || g.Hands().Users.Reads() != 1 {
				t.Error(c, all(g))
			}
			sends(t, g, conn, open, target, number(api.ErrState))
		}
	}
	// A user without a role has none that he could have.
	g := lay(t, config())
	conn := arrive(t, g, "s", "t")
	enter(t, g, conn, "", "bob", "secret")
	admin(t, g, `policy "allow * * * *"`, "ok")
	logs(t, g, func() { sends(t, g, conn, open, "web:80", number(api.ErrGone)) }, fmt.Sprint("fail ", conn, " 16"))
	stateIs(t, g, conn, isKnown)
	// A role that he is given afterwards is another generation.
	enter(t, g, conn, "dev", "bob", "secret")
	admin(t, g, "grant t bob dev", "ok")
	sends(t, g, conn, open, "web:80", number(api.ErrGone))
	enter(t, g, conn, "dev", "bob", "secret")
	sends(t, g, conn, open, "web:80", said{opened, "web:80"})
}

// The event has no line if its text is too long; the tunnel is denied all the same.
func TestP25_1OpenLongText(t *testing.T) {
	user := strings.Repeat("n", 32)
	tenant := strings.Repeat("t", 32)
	role := strings.Repeat("r", 32)
	host := strings.Repeat("h", 32)
	g := lay(t, config())
	admin(t, g, "tenant-add "+tenant, "ok")
	admin(t, g, "user-add "+tenant+" "+user+" p 01 1", "ok")
	admin(t, g, "grant "+tenant+" "+user+" "+role, "ok")
	admin(t, g, `policy "allow * * * *"`, "ok")
	conn := arrive(t, g, "s", tenant)
	enter(t, g, conn, "", user, "p")
	// 32 + 1 + 64 + 1 + 32 + 1 + 32 + 1 + 5 is 169, within 200
	logs(t, g, func() { sends(t, g, conn, open, host+":65535", said{opened, host + ":65535"}) }, fmt.Sprint("open ", conn, " ", tenant, " ", strings.Repeat("6e", 32), " ", role, " ", host, ":65535"))
}

func TestP25_1Data(t *testing.T) {
	g := lay(t, config())
	conn := tunnel(t, g, "s")
	logs(t, g, func() {
		sends(t, g, conn, data, "01234")
		sends(t, g, conn, data, "")
		sends(t, g, conn, data, "56789")
		sends(t, g, conn, data, "")
	})
	stateIs(t, g, conn, isOpen)
	logs(t, g, func() {
		if l := pass(t, g, conn, slices.Concat(packed(t, data, "x"), packed(t, data, ""), packed(t, bye, ""))); !slices.Equal(l, []said{number(api.ErrFull)}) {
			t.Error(l)
		}
	}, fmt.Sprint("shut ", conn))
	isGone(t, g, conn)
	// All of the bytes must fit.
	conn = tunnel(t, g, "s")
	logs(t, g, func() { sends(t, g, conn, data, strings.Repeat("x", 11), number(api.ErrFull)) }, fmt.Sprint("shut ", conn))
	isGone(t, g, conn)
	conn = tunnel(t, g, "s")
	sends(t, g, conn, data, strings.Repeat("x", 10))
	g.Step(gate.Input{Kind: gate.Drain, Conn: conn, Ticks: 3})
	sends(t, g, conn, data, "abc")
	r := g.Step(gate.Input{Kind: gate.Drain, Conn: conn, Ticks: math.MaxUint64})
	if len(r.Out) != 1 || string(r.Out[0].Data) != "xxxxxxxabc" {
		t.Error(r)
	}
	sends(t, g, conn, open, "web:80", number(api.ErrState))
	sends(t, g, conn, hello, "t", number(api.ErrState))
}

// A tunnel holds as many bytes as the configuration says, and gives all of them out at once.
func TestP25_1DataRoom(t *testing.T) {
	for _, room := range []int{1, 10, 2048, 4095, 4096} {
		c := config()
		c.Room = room
		g := lay(t, c)
		conn := tunnel(t, g, "s")
		text := strings.Repeat("0123456789abcde", 300)[:room]
		for part := range slices.Chunk([]byte(text), 2048) {
			sends(t, g, conn, data, string(part))
		}
		if r := g.Step(gate.Input{Kind: gate.Drain, Conn: conn, Ticks: math.MaxUint64}); len(r.Out) != 1 || string(r.Out[0].Data) != text {
			t.Error(room, len(r.Out))
		}
		for part := range slices.Chunk([]byte(text), 2048) {
			sends(t, g, conn, data, string(part))
		}
		sends(t, g, conn, data, "x", number(api.ErrFull))
		isGone(t, g, conn)
	}
}

// Each connection has a tunnel of its own, and bytes pass through it unchanged.
func TestP25_1Tunnels(t *testing.T) {
	g := lay(t, config())
	one, two := tunnel(t, g, "a"), tunnel(t, g, "b")
	sends(t, g, one, data, "one")
	sends(t, g, two, data, "two")
	for conn, want := range map[int]string{one: "one", two: "two"} {
		r := g.Step(gate.Input{Kind: gate.Drain, Conn: conn, Ticks: 10})
		if !reflect.DeepEqual(r, gate.Result{Out: []gate.Output{{Conn: conn, To: 1, Data: []byte(want)}}}) {
			t.Error(r)
		}
		r = g.Step(gate.Input{Kind: gate.Up, Conn: conn, Data: []byte(want)})
		if got := heard(t, conn, r.Out); !slices.Equal(got, []said{{sent, want}}) {
			t.Error(got)
		}
	}
}

// lock makes a source one that may not try at this time: it has failed, or the guard has no room for it.
func lock(t *testing.T, g *gate.Gate, source string, errno api.Errno) {
	t.Helper()
	h := g.Hands().Guard
	if errno == api.ErrLocked {
		h.Enter(source, g.Now())
		h.Fail(source, g.Now())
		return
	}
	h.Clear(source)
	for i := range 3 {
		h.Enter(fmt.Sprint("other", i), g.Now())
	}
}

// forged returns a ticket with another number and the same Mac.
func forged(t *testing.T, text string) string {
	t.Helper()
	body, sum, e := ticket.Split(text)
	if e != api.OK {
		t.Fatal(text, e)
	}
	x, _ := ticket.Read(body)
	x.Serial += 98
	body, e = x.Body()
	if e != api.OK {
		t.Fatal(x, e)
	}
	return b64.EncodeURL(body) + "." + b64.EncodeURL(sum)
}

// tryLocked makes an attempt of that kind with a source that is locked; what it says would otherwise let ann in, or not.
func tryLocked(t *testing.T, symbolic bool, errno api.Errno, kind byte, right bool) {
	t.Helper()
	c := config()
	c.Symbolic = symbolic
	g, text := ticketIn(t, lay(t, c), "dev")
	conn := arrive(t, g, "s", "t")
	want := number(errno)
	if kind == final {
		draw(t, g, "d")
		text = finalOf(t, g, "n,,", "n=ann,r=abc", "pencil", begin(t, g, conn, "n,,", "n=ann,r=abc"))
	}
	if kind == first {
		text = "n,,n=ann,r=abc"
	}
	switch {
	case !right && kind == show: // the Mac of which would be a new term
		text = forged(t, text)
	case !right:
		text = "x"
	}
	if kind == ask {
		field := "Proxy-Authorization: x"
		if right {
			field = annAt("web:80", challenge(t, g, conn, "d")).field(t, g)
		}
		text, want = connect("web:80", field), tooMany
	}
	draw(t, g, "waits")
	lock(t, g, "s", errno)
	h := g.Hands()
	seen := func() string {
		mark, _ := h.Nonces.Mark()
		return fmt.Sprint(h.Users.Reads(), g.Checks(), g.Draws(), h.Box.Len(), h.Tickets.Serial(), slices.Collect(h.Guard.Entries()), slices.Collect(h.Nonces.Entries()), mark)
	}
	before := seen()
	logs(t, g, func() { sends(t, g, conn, kind, text, want) }, fmt.Sprint("locked ", conn, " ", int(errno)))
	if now := seen(); now != before {
		t.Errorf("frame %d: %s, not %s", kind, now, before)
	}
	looks(t, g, conn, gate.View{Source: "s", State: isKnown, Tenant: "t"})
}

// A locked attempt is told and logged, and nothing else of it is executed: no draw is taken, no user is looked up, nothing is computed, and no nonce is spent.
func TestP25_4Locked(t *testing.T) {
	for _, symbolic := range []bool{false, true} {
		for _, errno := range []api.Errno{api.ErrLocked, api.ErrFull} {
			for _, kind := range []byte{first, final, show, ask} {
				tryLocked(t, symbolic, errno, kind, true)
				tryLocked(t, symbolic, errno, kind, false)
			}
		}
	}
}

// What is no attempt is possible for a locked source, too.
func TestP25_4NoAttempt(t *testing.T) {
	g := lay(t, config())
	lock(t, g, "s", api.ErrLocked)
	conn := dial(t, g, "s")
	sends(t, g, conn, hello, "t")
	draw(t, g, "d")
	l := send(t, g, conn, ask, "CONNECT web:80 HTTP/1.1\r\n\r\n")
	if len(l) != 1 || !strings.HasPrefix(l[0].body, "HTTP/1.1 407 ") {
		t.Error(l)
	}
	sends(t, g, conn, ask, "x", said{answer, "HTTP/1.1 400 Bad Request\r\n\r\n"})
	sends(t, g, conn, bye, "", said{closed, ""})
}

// The waits double, for all connections of a source, and end after a success. No more failures are possible than the bound.
func TestP25_4Waits(t *testing.T) {
	g := lay(t, config())
	wait := uint64(2)
	failures := 0
	for range 7 {
		conn := arrive(t, g, "s", "t")
		other := arrive(t, g, "s", "t")
		draw(t, g, "d"+fmt.Sprint(g.Now()))
		text := finalOf(t, g, "n,,", "n=ann,r=abc", "wrong", begin(t, g, conn, "n,,", "n=ann,r=abc"))
		sends(t, g, conn, final, text, said{say, "e=invalid-proof"})
		failures++
		if fails(g, "s") != failures {
			t.Error(failures, fails(g, "s"))
		}
		wait = min(2*wait, 50)
		for range wait {
			draw(t, g, "never")
			sends(t, g, conn, first, "n,,n=ann,r=abc", number(api.ErrLocked))
			sends(t, g, other, show, "", number(api.ErrLocked))
			tick(t, g, 1)
			for g.Draws() > 0 { // which no locked attempt has taken
				free := arrive(t, g, "free", "none")
				send(t, g, free, first, "")
				g.Step(gate.Input{Kind: gate.Hang, Conn: free})
			}
		}
		g.Step(gate.Input{Kind: gate.Hang, Conn: conn})
		g.Step(gate.Input{Kind: gate.Hang, Conn: other})
	}
	conn := arrive(t, g, "s", "t")
	enter(t, g, conn, "", "ann", "pencil")
	if fails(g, "s") != -1 {
		t.Error(fails(g, "s"))
	}
}

// A client final comes too late if the source was locked meanwhile, and the exchange is over then.
func TestP25_4LockedFinal(t *testing.T) {
	g := lay(t, config())
	conn := arrive(t, g, "s", "t")
	draw(t, g, "d")
	text := finalOf(t, g, "n,,", "n=ann,r=abc", "pencil", begin(t, g, conn, "n,,", "n=ann,r=abc"))
	other := arrive(t, g, "s", "t")
	sends(t, g, other, show, "", number(api.ErrDenied))
	logs(t, g, func() { sends(t, g, conn, final, text, number(api.ErrLocked)) }, fmt.Sprint("locked ", conn, " 11"))
	tick(t, g, 50)
	sends(t, g, conn, final, text, number(api.ErrState))
	if g.Hands().Nonces.Check("d.0000000000000001", g.Now()) != api.OK || g.Checks() != 0 {
		t.Error("spent")
	}
	enter(t, g, conn, "", "ann", "pencil")
}

// Input that cannot be parsed has exactly one answer and changes no credential, ticket or tunnel.
func TestP25_3Unparsed(t *testing.T) {
	for _, c := range []struct {
		state int
		kind  byte
		body  string
	}{
		{isFresh, hello, ""}, {isFresh, hello, "T"}, {isKnown, first, ""}, {isKnown, first, "n"}, {isKnown, ask, ""}, {isKnown, ask, "CONNECT web:80 HTTP/1.1\r\n"},
		{isKnown, ask, "CONNECT web:80 HTTP/1.1\r\nProxy-Authorization: x\r\n\r\n"}, {isKnown, show, ""}, {isKnown, show, "a.b"}, {isAsked, final, ""}, {isAsked, final, "c=biws"},
		{isIn, open, ""}, {isIn, open, "web"}, {isOpen, 9, ""}, {isOpen, 15, "x"},
	} {
		g := lay(t, config())
		there := tunnel(t, g, "o")
		sends(t, g, there, data, "waits")
		conn := inState(t, g, "s", c.state)
		draw(t, g, "d")
		users, tickets := fmt.Sprint(slices.Collect(g.Hands().Users.Users("t"))), g.Hands().Tickets.Serial()
		if l := send(t, g, conn, c.kind, c.body); len(l) != 1 {
			t.Error(c, l)
		}
		if fmt.Sprint(slices.Collect(g.Hands().Users.Users("t"))) != users || g.Hands().Tickets.Serial() != tickets {
			t.Error(c, "changes something")
		}
		r := g.Step(gate.Input{Kind: gate.Drain, Conn: there, Ticks: 9})
		if len(r.Out) != 1 || string(r.Out[0].Data) != "waits" {
			t.Error(c, r)
		}
	}
	// Nor do bytes that are no frame.
	g := lay(t, config())
	conn := tunnel(t, g, "s")
	if l := pass(t, g, conn, []byte{0, 0, 0, 1, 2, 3}); len(l) != 1 {
		t.Error(l)
	}
	r := g.Step(gate.Input{Kind: gate.Admin, Text: "user-drop t \"ann"})
	if r.Code != api.ErrForm || len(r.Out) != 0 {
		t.Error(r)
	}
	if _, there := g.Hands().Users.Find("t", "ann"); !there {
		t.Error("ann is gone")
	}
}

// Without its objects the gate lets nobody in, and does not panic.
func TestP25_3NoHands(t *testing.T) {
	for state := isFresh; state <= isOpen; state++ {
		g := lay(t, config())
		conn := inState(t, g, "s", state)
		h := g.Hands()
		h.Box, h.Users, h.Nonces, h.Guard, h.Ring, h.Tickets, h.Policy = nil, nil, nil, nil, nil, nil, nil
		draw(t, g, "d", "e")
		for kind := byte(1); kind <= 15; kind++ {
			for _, body := range []string{"", "t", "n,,n=ann,r=abc", "web:80", "CONNECT web:80 HTTP/1.1\r\n\r\n", "CONNECT web:80 HTTP/1.1\r\nProxy-Authorization: x\r\n\r\n"} {
				for _, o := range g.Step(gate.Input{Kind: gate.Bytes, Conn: conn, Data: packed(t, kind, body)}).Out {
					if f, _, e := frame.Unpack(o.Data); e != api.OK || f.Kind == ticked || f.Kind == opened {
						t.Error(kind, body, f, e)
					}
				}
				if v, e := g.Look(conn); e == api.OK && state < isIn && v.State >= isIn {
					t.Error(v)
				}
			}
		}
		g.Step(gate.Input{Kind: gate.Admin, Text: "sweep"})
	}
	// With a guard, what is missing is seen later.
	g := lay(t, config())
	conn := arrive(t, g, "s", "t")
	draw(t, g, "d", "e")
	g.Hands().Users = nil
	logs(t, g, func() { sends(t, g, conn, first, "n,,n=ann,r=abc", said{say, ""}) }, fmt.Sprint("fail ", conn, " 6"))
	sends(t, g, conn, ask, "CONNECT web:80 HTTP/1.1\r\n\r\n", said{answer, "HTTP/1.1 503 Service Unavailable\r\n\r\n"})
	logs(t, g, func() {
		sends(t, g, conn, ask, "CONNECT web:80 HTTP/1.1\r\nProxy-Authorization: x\r\n\r\n", said{answer, "HTTP/1.1 503 Service Unavailable\r\n\r\n"})
	}, fmt.Sprint("fail ", conn, " 6"))
	g.Hands().Guard = nil
	logs(t, g, func() { sends(t, g, conn, first, "n,,n=ann,r=abc", number(api.ErrNone)) }, fmt.Sprint("locked ", conn, " 6"))
}
