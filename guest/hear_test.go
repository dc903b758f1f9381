package guest_test

import (
	"bytes"
	"fmt"
	"slices"
	"strings"
	"testing"

	"ostiary/api"
	"ostiary/box"
	"ostiary/guest"
)

// In every state what is not exactly one frame is ErrForm, and nothing happens.
func TestP26_2NotAFrame(t *testing.T) {
	tooLong := append([]byte{closed, 0x08, 0x01}, make([]byte, 2049)...)
	bad := [][]byte{
		nil, {}, {closed}, {closed, 0}, {closed, 0, 1}, {closed, 0, 2, 'x'}, {0, 0, 0}, {16, 0, 0}, {255, 0, 0}, tooLong, tooLong[:2000],
		append(frameOf(closed, ""), 0), append(frameOf(closed, ""), frameOf(closed, "")...), append(frameOf(fault, "\x05"), 1),
	}
	for _, state := range states {
		for _, p := range bad {
			g := inState(t, ann, state)
			before := seen(g)
			if reply, e := g.Hear(p); reply != nil || e != api.ErrForm || seen(g) != before {
				t.Errorf("%v in state %d: %q %d %s", p[:min(len(p), 9)], state, reply, e, seen(g))
			}
		}
	}
}

// bodies tell something in frames of one kind or another.
var bodies = []string{
	"", "\x05", "\x00", "ab", aChallenge, aVerdict, "e=invalid-proof", ok, auth, authStale,
	"HTTP/1.1 403 Forbidden\r\n\r\n", "web:80", strings.Repeat("x", 2048),
}

// Nothing happens to a guest that is gone, whatever it hears.
func TestP26_2Gone(t *testing.T) {
	for kind := byte(1); kind <= 15; kind++ {
		for _, body := range bodies {
			g := inState(t, ann, guest.Open)
			hears(t, g, ticked, "t1")
			hears(t, g, sent, "got")
			hears(t, g, fault, "\x0c")
			silent(t, g, closed, "", guest.Gone)
			before := seen(g)
			silent(t, g, kind, body, guest.Gone)
			if seen(g) != before {
				t.Errorf("%d %q: %s, not %s", kind, body, seen(g), before)
			}
		}
	}
}

// A frame that doesn't belong to the state has no effect, nor do frames that guests send.
func TestP26_2NoEffect(t *testing.T) {
	belongs := map[byte][]int{
		say: {guest.Asking, guest.Proving}, answer: {guest.Waiting}, ticked: states, opened: {guest.In},
		sent: {guest.Open}, closed: states, fault: states,
	}
	for kind := byte(1); kind <= 15; kind++ {
		for _, state := range states {
			if slices.Contains(belongs[kind], state) {
				continue
			}
			for _, body := range bodies {
				g := inState(t, ann, state)
				before := seen(g)
				if silent(t, g, kind, body, state); seen(g) != before {
					t.Errorf("%d %q in state %d: %s", kind, body, state, seen(g))
				}
			}
		}
	}
}

// What has no effect spoils nothing of what is going on.
func TestP26_2NoEffectLater(t *testing.T) {
	others := func(g *guest.Guest, kinds ...byte) {
		for _, kind := range kinds {
			for _, body := range bodies {
				hears(t, g, kind, body)
			}
		}
	}
	g := inState(t, ann, guest.Asking)
	others(g, hello, first, final, ask, show, open, data, bye, answer, opened, sent)
	want, verdict := exchange(t, annHead, annBare, aChallenge, "abcdef", annPass, "\x01\x02", 3)
	sends(t, g, hears(t, g, say, aChallenge), api.OK, final, want, guest.Proving)
	others(g, hello, first, final, ask, show, open, data, bye, answer, opened, sent)
	silent(t, g, say, verdict, guest.In)
	others(g, hello, first, final, ask, show, open, data, bye, say, answer, sent)
	silent(t, g, opened, "other:1", guest.Open)
	others(g, hello, first, final, ask, show, open, data, bye, say, answer, opened)
	if got := seen(g); got != `6 "" "" 0` {
		t.Error(got)
	}

	h := inState(t, ann, guest.Waiting)
	others(h, hello, first, final, ask, show, open, data, bye, say, opened, sent)
	if reply := hears(t, h, answer, auth); reply == nil || h.State() != guest.Waiting {
		t.Errorf("%q %d", reply, h.State())
	}
}

// The client final carries the proof of RFC 5802, and the verdict that fits lets the guest in.
func TestP26_2Prove(t *testing.T) {
	for _, c := range []struct{ user, role, pass, prepared, nonce, more, salt, bare, head string }{
		{"ann", "", "pencil", "pencil", "abc", "d", "\x01\x02", "n=ann,r=abc", "n,,"},
		{"ann", "dev", "a b", "a b", "a", ".0000000000000001", "x", "n=ann,r=a", "n,a=dev,"},
		{"a=b,c", "d,e", "a\u00a0b\u00ad", "a b", "=", "=", strings.Repeat("\xff", 32), "n=a=3Db=2Cc,r==", "n,a=d=2Ce,"},
		{"a\u00adnn\u00a0x", "\u20ac", "\ufeff\u3000,=\u00e4", " ,=\u00e4", "~", strings.Repeat("!", 63), "\x00", "n=a\u00adnn\u00a0x,r=~", "n,a=\u20ac,"},
	} {
		for _, rounds := range []int{1, 2, 64} {
			for _, more := range []string{"", ",x=1", ",a=\u00e4,Z==,x=1"} {
				g := made(t, box.New(false), api.Who{Tenant: "t", User: c.user, Role: c.role}, c.pass)
				g.Hello()
				g.Begin(c.nonce)
				nonce := c.nonce + c.more
				challenge := fmt.Sprintf("r=%s,s=%s,i=%d%s", nonce, encode([]byte(c.salt)), rounds, more)
				want, verdict := exchange(t, c.head, c.bare, challenge, nonce, c.prepared, c.salt, rounds)
				sends(t, g, hears(t, g, say, challenge), api.OK, final, want, guest.Proving)
				silent(t, g, say, verdict+more, guest.In)
			}
		}
	}
}

// Whatever is no challenge to the guest's nonce makes it bad.
func TestP26_2BadChallenges(t *testing.T) {
	for _, text := range []string{
		"", "r=abc,s=AQI=,i=3", "r=ab,s=AQI=,i=3", "r=abd.1,s=AQI=,i=3", "r=Abcd,s=AQI=,i=3", "r=xabcd,s=AQI=,i=3", "r=defabc,s=AQI=,i=3",
		"r=,s=AQI=,i=3", "r=abcdef,s=,i=3", "r=abcdef,s=AQI,i=3", "r=abcdef,s=AQI=,i=0", "r=abcdef,s=AQI=,i=65", "r=abcdef,s=AQI=,i=03", "r=abcdef,s=AQI=",
		"r=abcdef,s=" + encode(make([]byte, 33)) + ",i=3", "r=abc" + strings.Repeat("d", 62) + ",s=AQI=,i=3",
		"m=x,r=abcdef,s=AQI=,i=3", "r=abcdef,s=AQI=,i=3,m=x", "r=abcdef,s=AQI=,i=3,", "r=abc def,s=AQI=,i=3", "r=abcdef,s=AQI=,i=3\x00",
		"e=other-error", "e=invalid-proof", aVerdict, "n,,n=ann,r=abcdef", ok,
	} {
		b := box.New(true)
		g := made(t, b, ann, annPass)
		g.Hello()
		g.Begin("abc")
		silent(t, g, say, text, guest.Bad)
		if b.Len() != 0 {
			t.Errorf("%q: the guest has computed something", text)
		}
		silent(t, g, say, aChallenge, guest.Bad)
		silent(t, g, say, aVerdict, guest.Bad)
	}
}

// A challenge may have a nonce of any length that is longer than the guest's.
func TestP26_2ChallengeNonces(t *testing.T) {
	for own := 1; own <= 64; own++ {
		for whole := 1; whole <= 64; whole++ {
			g := inState(t, ann, guest.Here)
			g.Begin(strings.Repeat("a", own))
			reply := hears(t, g, say, "r="+strings.Repeat("a", whole)+",s=AQI=,i=1")
			if whole > own != (g.State() == guest.Proving) || whole > own != (reply != nil) || whole <= own != (g.State() == guest.Bad) {
				t.Errorf("%d %d: %q %d", own, whole, reply, g.State())
			}
		}
	}
}

// The head of a client final is encoded and so longer than that of the client first. If no frame carries it, the guest is bad.
func TestP26_2ProveLong(t *testing.T) {
	for size := 1400; size < 1600; size++ {
		role := strings.Repeat("r", size)
		g := inState(t, api.Who{Tenant: "t", User: "ann", Role: role}, guest.Here)
		p, e := g.Begin("abc")
		sends(t, g, p, e, first, "n,a="+role+",n=ann,r=abc", guest.Asking)
		want, _ := exchange(t, "n,a="+role+",", annBare, aChallenge, "abcdef", annPass, "\x01\x02", 3)
		if len(want) <= 2048 {
			sends(t, g, hears(t, g, say, aChallenge), api.OK, final, want, guest.Proving)
		} else {
			silent(t, g, say, aChallenge, guest.Bad)
		}
	}
}

// In a symbolic box the terms are those of layer 19, in its order.
func TestP26_2ProveTerms(t *testing.T) {
	b := box.New(true)
	g := made(t, b, api.Who{Tenant: "t", User: "a\u00adnn", Role: "dev"}, "pen\u00adcil")
	g.Hello()
	g.Begin("abc")
	if b.Len() != 0 {
		t.Error("Begin computes something")
	}
	reply := hears(t, g, say, aChallenge)
	without := "c=" + encode([]byte(annHead)) + ",r=abcdef"
	sends(t, g, reply, api.OK, final, without+",p="+encode(box.Handle(6)), guest.Proving)
	message := "n=a\u00adnn,r=abc," + aChallenge + "," + without
	o := box.New(true)
	salted, _ := o.Stretch([]byte("pencil"), []byte{1, 2}, 3)
	key := o.Mac(salted, []byte("Client Key"))
	stored := o.Hash(key)
	server := o.Mac(salted, []byte("Server Key"))
	o.Turn(key, o.Mac(stored, []byte(message)))
	verdict := o.Mac(server, []byte(message))
	sameTerms(t, b, o)
	silent(t, g, say, "v="+encode(verdict), guest.In)
	sameTerms(t, b, o)
}

// sameTerms checks that two boxes hold the same terms.
func sameTerms(t *testing.T, b, o *box.Box) {
	t.Helper()
	if b.Len() != o.Len() {
		t.Fatal(b.Len(), o.Len())
	}
	for n, x := range b.Terms() {
		if y, _ := o.Term(n); fmt.Sprint(x) != fmt.Sprint(y) {
			t.Errorf("term %d: %v, not %v", n, x, y)
		}
	}
}

// Every verdict but the expected one makes the guest bad.
func TestP26_2BadVerdicts(t *testing.T) {
	_, verdict := exchange(t, annHead, annBare, aChallenge, "abcdef", annPass, "\x01\x02", 3)
	wrong := []string{"", "e=invalid-proof", "e=other-error", "v=", aVerdict, verdict + ",m=x", verdict + ",", "e=x," + verdict, " " + verdict, verdict[2:], aChallenge, ok, verdict[:len(verdict)-1]}
	for i := 2; i < len(verdict)-2; i++ {
		changed := []byte(verdict)
		if changed[i] = 'A'; verdict[i] == 'A' {
			changed[i] = 'B'
		}
		wrong = append(wrong, string(changed))
	}
	for _, text := range wrong {
		g := inState(t, ann, guest.Proving)
		silent(t, g, say, text, guest.Bad)
		silent(t, g, say, verdict, guest.Bad)
		silent(t, g, opened, "web:80", guest.Bad)
	}
	g := inState(t, ann, guest.Proving)
	silent(t, g, say, verdict+",x=1", guest.In)
}

// A guest whose password is another one expects another verdict.
func TestP26_2OtherPassword(t *testing.T) {
	_, verdict := exchange(t, annHead, annBare, aChallenge, "abcdef", "pencil2", "\x01\x02", 3)
	g := inState(t, ann, guest.Proving)
	silent(t, g, say, verdict, guest.Bad)
}

// A ticket becomes the guest's in every state but gone, and the state stays.
func TestP26_2Ticket(t *testing.T) {
	for _, state := range states {
		g := inState(t, ann, state)
		for _, text := range []string{"a", "", "\x00\xff", strings.Repeat("x", 2048)} {
			want := text
			if state == guest.Gone {
				want = ""
			}
			if silent(t, g, ticked, text, state); g.Ticket() != want {
				t.Errorf("%q in state %d: %q", text, state, g.Ticket())
			}
		}
	}
}

// A closed connection is gone, whatever the frame says.
func TestP26_2Closed(t *testing.T) {
	for _, state := range states {
		for _, body := range bodies {
			silent(t, inState(t, ann, state), closed, body, guest.Gone)
		}
	}
}

// An error makes the guest bad, unless it is in or open; it has exactly one byte.
func TestP26_2Error(t *testing.T) {
	for _, state := range states {
		if state == guest.Gone {
			continue
		}
		after := guest.Bad
		if state == guest.In || state == guest.Open {
			after = state
		}
		for n := range 256 {
			g := inState(t, ann, state)
			if silent(t, g, fault, string([]byte{byte(n)}), after); g.Fault() != api.Errno(n) {
				t.Error(state, n, g.Fault())
			}
		}
		for _, body := range []string{"", "\x05\x05", "\x05\x00", "12", strings.Repeat("\x05", 2048)} {
			g := inState(t, ann, state)
			before := seen(g)
			if silent(t, g, fault, body, state); seen(g) != before {
				t.Errorf("%q in state %d: %s", body, state, seen(g))
			}
		}
	}
}

// An opened tunnel is open, whatever the frame says, and what comes through it is kept.
func TestP26_2Opened(t *testing.T) {
	for _, body := range bodies {
		g := inState(t, ann, guest.In)
		silent(t, g, opened, body, guest.Open)
		var want []byte
		for _, part := range append(bodies, "", "z") {
			silent(t, g, sent, part, guest.Open)
			want = append(want, part...)
		}
		if !bytes.Equal(g.Got(), want) {
			t.Errorf("%q, not %q", g.Got(), want)
		}
	}
}

// again returns the request with an answer to a challenge.
func again(user, pass, nonce, opaque, role string) string {
	if opaque != "" {
		opaque = `opaque="` + opaque + `", `
	}
	text := annAsk + `Proxy-Authorization: Digest username="` + user + `", realm="t", nonce="` + nonce + `", uri="web:80", qop=auth, nc=00000001, cnonce="c", response="` +
		response(user, "t", pass, nonce, "c", "web:80") + `", ` + opaque + "algorithm=SHA-256\r\n"
	if role != "" {
		text += "X-Role: " + role + "\r\n"
	}
	return text + "\r\n"
}

// The answer to a challenge is that of RFC 7616, with the role if there is one, and 200 opens the tunnel.
func TestP26_2Answer(t *testing.T) {
	for _, role := range []string{"", "dev", "No Role", "\u00e4", "a\tb"} {
		for _, c := range []struct{ nonce, opaque string }{{"n", ""}, {"d.0000000000000001", "op"}, {" ,=", " "}, {strings.Repeat("x", 64), strings.Repeat("o", 500)}} {
			g := inState(t, api.Who{Tenant: "t", User: "ann", Role: role}, guest.Waiting)
			challenge := `digest  algorithm=sha-256 ,opaque="` + c.opaque + `",qop="auth", nonce="` + c.nonce + `", REALM = "t", more=x`
			sends(t, g, hears(t, g, answer, authFor+challenge+"\r\n\r\n"), api.OK, ask, again("ann", annPass, c.nonce, c.opaque, role), guest.Waiting)
			silent(t, g, answer, ok, guest.Open)
		}
	}
}

// The name is sent as it was passed, but the response is that of the prepared name and password, since the secret is.
func TestP26_2AnswerPrepared(t *testing.T) {
	g := made(t, box.New(false), api.Who{Tenant: "t", User: "a\u00adn\u00a0n"}, "pen\u200bcil\u3000")
	g.Hello()
	g.Request("web:80", "c")
	want := strings.ReplaceAll(again("a n", "x", "n", "", ""), response("a n", "t", "x", "n", "c", "web:80"), response("an n", "t", "pencil ", "n", "c", "web:80"))
	want = strings.ReplaceAll(want, `username="a n"`, "username=\"a\u00adn\u00a0n\"")
	sends(t, g, hears(t, g, answer, auth), api.OK, ask, want, guest.Waiting)
}

// What must be quoted is.
func TestP26_2AnswerQuoted(t *testing.T) {
	g := made(t, box.New(false), api.Who{Tenant: "t", User: `a"\`}, annPass)
	g.Hello()
	g.Request("h:1", `"\`)
	want := "CONNECT h:1 HTTP/1.1\r\n" + `Proxy-Authorization: Digest username="a\"\\", realm="t", nonce="\"\\", uri="h:1", qop=auth, nc=00000001, cnonce="\"\\", response="` +
		response(`a"\`, "t", annPass, `"\`, `"\`, "h:1") + `", opaque="\"\\", algorithm=SHA-256` + "\r\n\r\n"
	reply := hears(t, g, answer, authFor+`Digest realm="t", nonce="\"\\", opaque="\"\\", algorithm=SHA-256, qop="auth"`+"\r\n\r\n")
	sends(t, g, reply, api.OK, ask, want, guest.Waiting)
}

// In a symbolic box the terms are HA1, HA2 and the response, for each answer.
func TestP26_2AnswerTerms(t *testing.T) {
	b := box.New(true)
	g := made(t, b, api.Who{Tenant: "t", User: "a\u00adnn"}, "pen\u00adcil")
	g.Hello()
	g.Request("web:80", "c")
	if b.Len() != 0 {
		t.Error("Request computes something")
	}
	o := box.New(true)
	for _, c := range []struct{ nonce, head string }{{"n", auth}, {"o", authStale}} {
		reply := string(hears(t, g, answer, c.head))
		ha1 := o.Hash([]byte("ann:t:pencil"))
		ha2 := o.Hash([]byte("CONNECT:web:80"))
		want := o.Hash(fmt.Appendf(nil, "%x:%s:00000001:c:auth:%x", ha1, c.nonce, ha2))
		if !strings.Contains(reply, fmt.Sprintf(`response="%x",`, want)) {
			t.Errorf("%q", reply)
		}
		sameTerms(t, b, o)
	}
}

// A challenge is answered once; after that only stale ones are, as often as they come.
func TestP26_2Stale(t *testing.T) {
	fresh := []byte(frameOf(ask, again("ann", annPass, "n", "", "dev")))
	late := []byte(frameOf(ask, again("ann", annPass, "o", "", "dev")))
	notStale := strings.Replace(authStale, "stale=true", "stale=false", 1)
	for _, c := range []struct {
		heads   []string
		replies [][]byte
	}{
		{[]string{auth, auth}, [][]byte{fresh, nil}},
		{[]string{auth, notStale}, [][]byte{fresh, nil}},
		{[]string{auth, authStale, authStale, authStale}, [][]byte{fresh, late, late, late}},
		{[]string{auth, authStale, auth, authStale}, [][]byte{fresh, late, nil, nil}},
		{[]string{authStale, authStale, notStale}, [][]byte{late, late, nil}},
		{[]string{authStale, auth}, [][]byte{late, nil}},
		{[]string{notStale, authStale, ok}, [][]byte{late, late, nil}},
	} {
		g := inState(t, ann, guest.Waiting)
		for i, head := range c.heads {
			state := guest.Waiting
			switch {
			case head == ok:
				state = guest.Open
			case c.replies[i] == nil:
				state = guest.Bad
			}
			if reply := hears(t, g, answer, head); !bytes.Equal(reply, c.replies[i]) || g.State() != state {
				t.Errorf("%q, %d: %q, state %d", c.heads, i, reply, g.State())
			}
		}
	}
}

// The first field with a challenge counts, whatever the case of its name.
func TestP26_2FirstField(t *testing.T) {
	other := strings.Replace(aDigest, `"n"`, `"other"`, 1)
	want := again("ann", annPass, "n", "", "dev")
	for _, fields := range []string{
		"PROXY-authenticate:" + aDigest + " \r\nProxy-Authenticate: " + other + "\r\n",
		"X: y\r\nWWW-Authenticate: " + other + "\r\nProxy-Authenticate: " + aDigest + "\r\nProxy-Authenticate: Basic\r\n",
	} {
		g := inState(t, ann, guest.Waiting)
		sends(t, g, hears(t, g, answer, "HTTP/1.1 407 \r\n"+fields+"\r\n"), api.OK, ask, want, guest.Waiting)
	}
	for _, fields := range []string{
		"", "WWW-Authenticate: " + aDigest + "\r\n", "Proxy-Authenticate:\r\nProxy-Authenticate: " + aDigest + "\r\n",
		"Proxy-Authenticate: Basic realm=\"t\"\r\nProxy-Authenticate: " + aDigest + "\r\n",
	} {
		silent(t, inState(t, ann, guest.Waiting), answer, "HTTP/1.1 407 X\r\n"+fields+"\r\n", guest.Bad)
	}
}

// What is no challenge of layer 8, or one for another tenant, makes the guest bad.
func TestP26_2BadAuthentication(t *testing.T) {
	for _, header := range []string{
		"", "Digest", `Digest realm="u", nonce="n", algorithm=SHA-256, qop="auth"`, `Digest realm="T", nonce="n", algorithm=SHA-256, qop="auth"`,
		`Digest realm="", nonce="n", algorithm=SHA-256, qop="auth"`, `Digest realm="t ", nonce="n", algorithm=SHA-256, qop="auth"`,
		`Digest realm=t, nonce="n", algorithm=SHA-256, qop="auth"`, `Digest nonce="n", algorithm=SHA-256, qop="auth"`, `Digest realm="t", algorithm=SHA-256, qop="auth"`,
		`Digest realm="t", nonce="n", algorithm=MD5, qop="auth"`, `Digest realm="t", nonce="n", qop="auth"`, `Digest realm="t", nonce="n", algorithm=SHA-256`,
		`Digest realm="t", nonce="n", algorithm=SHA-256, qop="auth-int"`, `Digest realm="t", nonce="", algorithm=SHA-256, qop="auth"`,
		`Digest realm="t", realm="t", nonce="n", algorithm=SHA-256, qop="auth"`, `Digest realm="t", nonce="n", algorithm=SHA-256, qop="auth", stale=maybe`,
		`Basic realm="t"`, aDigest + ",", `Digest realm="u", nonce="n", algorithm=SHA-256, stale=true, qop="auth"`,
	} {
		b := box.New(true)
		g := made(t, b, ann, annPass)
		g.Hello()
		g.Request("web:80", "c")
		silent(t, g, answer, authFor+header+"\r\n\r\n", guest.Bad)
		if b.Len() != 0 {
			t.Errorf("%q: the guest has computed something", header)
		}
		silent(t, g, answer, ok, guest.Bad)
	}
}

// All statuses but 200 and 407 make the guest bad, and 200 opens the tunnel, also at once, and with fields.
func TestP26_2Statuses(t *testing.T) {
	for status := 100; status <= 999; status++ {
		for _, fields := range []string{"", "Proxy-Authenticate: " + aDigest + "\r\nX: y\r\n"} {
			want := guest.Bad
			switch {
			case status == 200:
				want = guest.Open
			case status == 407 && fields != "":
				continue
			}
			silent(t, inState(t, ann, guest.Waiting), answer, fmt.Sprintf("HTTP/1.1 %d \r\n%s\r\n", status, fields), want)
		}
	}
}

// What is not exactly one head makes the guest bad.
func TestP26_2NotAHead(t *testing.T) {
	many := strings.Repeat("a: b\r\n", 25)
	for _, body := range []string{
		"", "\r\n\r\n", "HTTP/1.1 200 OK", "HTTP/1.1 200 OK\r\n", "HTTP/1.1 200 OK\r\n\r", "HTTP/1.0 200 OK\r\n\r\n", "HTTP/1.1 200\r\n\r\n", "HTTP/1.1 020 OK\r\n\r\n", "200",
		"HTTP/1.1 200 OK\n\n", " " + ok, ok + "x", ok + ok, auth + "\r\n", "HTTP/1.1 200 OK\r\nbad field\r\n\r\n", "HTTP/1.1 200 OK\r\n" + many + "\r\n",
		"CONNECT web:80 HTTP/1.1\r\n\r\n", aChallenge, "HTTP/1.1 200 " + strings.Repeat("x", 2035),
	} {
		g := inState(t, ann, guest.Waiting)
		silent(t, g, answer, body, guest.Bad)
		silent(t, g, answer, ok, guest.Bad)
	}
}

// A guest whose role or name is in the way of its answer is bad as soon as it would have to send it.
func TestP26_2AnswerImpossible(t *testing.T) {
	for _, role := range []string{" dev", "dev ", "\tdev", "a\nb", "a\r\nX: y", "\x00", "\x7f", strings.Repeat("r", 2048), strings.Repeat("r", 5000)} {
		silent(t, inState(t, api.Who{Tenant: "t", User: "ann", Role: role}, guest.Waiting), answer, auth, guest.Bad)
		silent(t, inState(t, api.Who{Tenant: "t", User: "ann", Role: role}, guest.Waiting), answer, ok, guest.Open)
	}
	for _, times := range []int{900, 1100, 2000, 2100, 5000} {
		user := "a" + strings.Repeat("\u00ad", times)
		g := inState(t, api.Who{Tenant: "t", User: user}, guest.Waiting)
		if times == 900 {
			if reply := hears(t, g, answer, auth); reply == nil || g.State() != guest.Waiting {
				t.Errorf("%q %d", reply, g.State())
			}
			continue
		}
		silent(t, g, answer, auth, guest.Bad)
	}
}

// An answer fits into a frame up to its last byte.
func TestP26_2AnswerLong(t *testing.T) {
	plain := len(again("ann", annPass, "n", "", "r")) - 1
	for size := 2040 - plain; size <= 2056-plain; size++ {
		role := strings.Repeat("r", size)
		g := inState(t, api.Who{Tenant: "t", User: "ann", Role: role}, guest.Waiting)
		if size+plain <= 2048 {
			sends(t, g, hears(t, g, answer, auth), api.OK, ask, again("ann", annPass, "n", "", role), guest.Waiting)
		} else {
			silent(t, g, answer, auth, guest.Bad)
		}
	}
}
