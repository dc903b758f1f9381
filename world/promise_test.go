package world_test

import (
	"fmt"
	"math/rand"
	"strings"
	"testing"

	"ostiary/api"
	"ostiary/b64"
	"ostiary/cred"
	"ostiary/digest"
	"ostiary/frame"
	"ostiary/guest"
	"ostiary/head"
	"ostiary/proof"
	"ostiary/scram"
	"ostiary/span"
	"ostiary/ticket"
	"ostiary/trace"
	"ostiary/world"
)

// The same acts have the same effects, whatever happens in other worlds.
func TestP2World(t *testing.T) {
	r := rand.New(rand.NewSource(2))
	for round := range 60 {
		c := config()
		c.Symbolic = round%2 == 1
		w, twin, other := lay(t, c), lay(t, c), lay(t, c)
		for range 150 {
			a := someAct(r, w)
			e := w.Do(a)
			other.Do(someAct(r, other))
			if d := twin.Do(a); d != e {
				t.Fatalf("%+v: %d, not %d", a, d, e)
			}
			if r.Intn(10) == 0 {
				other.Calm(r.Intn(3))
				if n, m := w.Calm(2), twin.Calm(2); n != m {
					t.Fatal(n, m)
				}
			}
		}
		if x, y := look(w), look(twin); x != y {
			t.Fatalf("%s\nnot\n%s", y, x)
		}
		if x, y := w.Gate().Hands().Box.Len(), twin.Gate().Hands().Box.Len(); x != y {
			t.Fatal(x, y)
		}
	}
}

// watch checks after each act what the promises say of it.
type watch struct {
	t      *testing.T
	world  *world.World
	last   uint64              // event that was looked at
	used   map[string]string   // by nonce and count: who got in
	fails  map[string][]uint64 // by source: when the guard has counted a failure
	enters map[string]int      // how often what happened
}

// frames returns the frames of a kind that an iterator yields for a connection, or for all if it is 0.
func frames(all func(func(int, []byte) bool), conn int, kind byte) []string {
	readers := map[int]*frame.Reader{}
	var out []string
	for c, p := range all {
		if conn != 0 && c != conn {
			continue
		}
		if readers[c] == nil {
			readers[c] = frame.NewReader()
		}
		readers[c].Feed(p)
		for f := range readers[c].Frames() {
			if f.Kind == kind {
				out = append(out, string(f.Body))
			}
		}
	}
	return out
}

// userOf returns the user whom an event tells of. (A connection doesn't tell any more if the user was put out again at once.)
func (o *watch) userOf(e trace.Event) cred.Cred {
	words := strings.Split(e.Text, " ")
	user, _ := b64.Unhex(words[1])
	c, ok := o.world.Gate().Hands().Users.Find(words[0], string(user))
	if !ok {
		o.t.Fatal("there is no such user", e)
	}
	return c
}

// byScram returns the nonce of a right proof that was sent on a connection, for a challenge that was sent on it.
func (o *watch) byScram(conn int, c cred.Cred) (string, bool) {
	finals := frames(o.world.Said(), conn, final)
	if len(finals) == 0 {
		return "", false
	}
	f, e := scram.ParseFinal(finals[len(finals)-1])
	if e != api.OK {
		return "", false
	}
	without, _ := f.Without()
	b := o.world.Gate().Hands().Box
	for _, challenge := range frames(o.world.Heard(), conn, say) {
		for _, text := range frames(o.world.Said(), conn, first) {
			m, e := scram.ParseFirst(text)
			if bare, _ := m.Bare(); e == api.OK && strings.HasPrefix(challenge, "r="+f.Nonce+",") && proof.Check(b, c.Secret, proof.Message(bare, challenge, without), f.Proof) == api.OK {
				return f.Nonce, true
			}
		}
	}
	return "", false
}

// byDigest returns the nonce and the count of a right response that was sent on a connection, for a challenge that the gate has sent. (By layers 21 and 25 an answer may be for any nonce of the store, also for one that another connection was challenged with.)
func (o *watch) byDigest(conn int, c cred.Cred) (string, bool) {
	asks := frames(o.world.Said(), conn, ask)
	if len(asks) == 0 {
		return "", false
	}
	request, _, _ := head.ParseRequest([]byte(asks[len(asks)-1]))
	field, _ := head.First(request.Fields, "Proxy-Authorization")
	a, e := digest.ParseAnswer(field)
	b := o.world.Gate().Hands().Box
	if e != api.OK || !proof.Equal(proof.Response(b, c.Secret.HA1, "CONNECT", a), a.Proof) {
		return "", false
	}
	for _, text := range frames(o.world.Heard(), 0, answer) {
		if strings.Contains(text, `nonce="`+a.Nonce+`"`) {
			return fmt.Sprint(a.Nonce, " ", a.NC), true
		}
	}
	return "", false
}

// byTicket reports whether a ticket was shown on a connection that the gate has issued for whom it belongs to.
func (o *watch) byTicket(conn int) bool {
	v, _ := o.world.Gate().Look(conn)
	shown := frames(o.world.Said(), conn, show)
	for _, issued := range frames(o.world.Heard(), 0, ticked) {
		if len(shown) > 0 && issued == shown[len(shown)-1] {
			body, _, _ := ticket.Split(issued)
			held, e := ticket.Read(body)
			return e == api.OK && held.Who == v.Who && held.Gen == v.Gen && held.From <= o.world.Gate().Now() && o.world.Gate().Now() < held.To
		}
	}
	return false
}

// look looks at what has happened.
func (o *watch) look() {
	o.t.Helper()
	for e := range o.world.Gate().Trace().Since(o.last) {
		o.last = e.N
		o.event(e)
	}
	hands := o.world.Gate().Hands()
	now, base, most := o.world.Gate().Now(), config().Guard.Base, config().Guard.Most
	tracked := map[string]bool{}
	for e := range hands.Guard.Entries() {
		tracked[e.Source] = true
		for len(o.fails[e.Source]) < e.Fails {
			o.fails[e.Source] = append(o.fails[e.Source], now)
		}
	}
	for source, times := range o.fails {
		if !tracked[source] {
			delete(o.fails, source)
			continue
		}
		for i, from := range times {
			if n := uint64(len(times) - i); n > span.Bound(now-from+1, base, most) {
				o.t.Fatal("too many failures", source, times)
			}
		}
	}
}

// event checks what an event tells.
func (o *watch) event(e trace.Event) {
	o.t.Helper()
	switch e.Kind {
	case "enter":
		c := o.userOf(e)
		nonce, ok := o.byScram(e.Conn, c)
		way := "scram"
		if !ok {
			nonce, ok = o.byDigest(e.Conn, c)
			way = "digest"
		}
		if !ok {
			o.t.Fatal("P3: nobody has proved to be", e)
		}
		if before, ok := o.used[nonce]; ok {
			o.t.Fatal("P4: the nonce was used before", nonce, before, e)
		}
		o.used[nonce] = e.Text
		o.enters[way]++
	case "resume":
		if !o.byTicket(e.Conn) {
			o.t.Fatal("P3: no ticket was issued", e)
		}
		o.enters["ticket"]++
	case "open":
		v, _ := o.world.Gate().Look(e.Conn)
		hands := o.world.Gate().Hands()
		host, port, ok := head.Split(v.Target)
		if !ok || !hands.Users.Current(v.Who.Tenant, v.Who.User, v.Gen) || !hands.Users.Has(v.Who.Tenant, v.Who.User, v.Who.Role) || !hands.Policy.May(v.Who.Role, v.Who.Tenant, host, port) {
			o.t.Fatal("P7: this tunnel is not permitted", e, v)
		}
		o.enters["open"]++
	case "deny", "fail", "locked":
		o.enters[e.Kind]++
	}
}

// siegeAct returns an act of guests some of whom are honest: the first ones, which have the passwords. The others send whatever they like. Guests come one after another.
func siegeAct(r *rand.Rand, w *world.World, honest, step int) world.Act {
	n := r.Intn(min(2+step/10, w.Guests()))
	a := next(r, w, n)
	if n < honest && (a.Kind == world.Turn || a.Kind == world.Lose || a.Kind == world.Raw || a.Kind == world.Bye) {
		a.Kind = world.Hear
	}
	if n < honest && a.Kind == world.Send && r.Intn(2) == 0 {
		a.Kind = world.Pull
	}
	if n >= honest && r.Intn(2) == 0 {
		return world.Act{Kind: world.Raw, Who: n, Data: someRaw(r, w)}
	}
	switch r.Intn(12) {
	case 0:
		return world.Act{Kind: world.Tick, N: oneOf(r, uint64(1), 2, 5, 30)}
	case 1:
		return world.Act{Kind: world.Admin, Text: oneOf(r, "key-rotate", "revoke t bob", "restore t bob", "grant t bob dev", "ungrant t bob dev", "user-pass t bob secret 05 3", `policy "allow dev t * *\n"`, `policy "deny * * db *\nallow * * * 80\n"`, "ticket-revoke 1", "key-retire 1", "count", "count", "count")}
	}
	return a
}

// In a world where guests, thieves and the administrator act, whoever gets in has proved who he is for a nonce of his connection, or has shown a ticket that was issued; no nonce lets in twice; no source fails more often than the bound; and each tunnel is permitted.
func TestP3World(t *testing.T) {
	r := rand.New(rand.NewSource(3))
	total := map[string]int{}
	for range 200 {
		c := config()
		c.Guard.Room, c.Nonces.Room = 64, 64
		w := lay(t, c)
		honest := 4 + r.Intn(5)
		for n := range honest {
			who := []string{"ann", "pencil", "bob", "secret"}[n%2*2:]
			does(t, w, join(who[0], who[1], oneOf(r, "", "dev"), fmt.Sprint("home ", n)))
		}
		for n := honest; n < 16; n++ {
			does(t, w, join(oneOf(r, "ann", "bob"), oneOf(r, "pen", "x", "other"), oneOf(r, "", "dev", "ops"), oneOf(r, "den 1", "den 2", "den 3")))
		}
		o := &watch{t: t, world: w, used: map[string]string{}, fails: map[string][]uint64{}, enters: total}
		for step := range 300 {
			w.Do(siegeAct(r, w, honest, step))
			o.look()
		}
	}
	for _, what := range []string{"scram", "digest", "ticket", "open", "deny", "fail", "locked"} {
		if total[what] < 50 {
			t.Error("too little has happened", what, total)
		}
	}
}

// A guest that lacks the password gets in nowhere, by whatever it begins.
func TestP3WrongPassword(t *testing.T) {
	for _, symbolic := range []bool{false, true} {
		c := config()
		c.Symbolic = symbolic
		w := lay(t, c)
		for n, who := range [][]string{{"ann", "pencil "}, {"ann", "secret"}, {"bob", "pencil"}, {"eve", "x"}, {"t", "t"}, {"ann", "other"}} {
			does(t, w, join(who[0], who[1], "", fmt.Sprint("scram ", n)), join(who[0], who[1], "dev", fmt.Sprint("digest ", n)))
			does(t, w, world.Act{Kind: world.Begin, Who: 2 * n, Text: "abc"}, world.Act{Kind: world.Request, Who: 2*n + 1, Text: "web:80"})
			w.Calm(200)
			for i := range 2 {
				if v, e := w.Gate().Look(w.Conn(2*n + i)); e != api.OK || v.State != isKnown || w.Guest(2*n+i).State() != guest.Bad {
					t.Error(who, v, w.Guest(2*n+i).State())
				}
			}
		}
		if w.Gate().Checks() != 12 {
			t.Error(w.Gate().Checks())
		}
	}
}

// Whatever a guest has sent to get in lets nobody else in when it is sent again: neither by itself nor in its order, at once or later. Only the ticket does, which is no nonce.
func TestP4Replay(t *testing.T) {
	for _, symbolic := range []bool{false, true} {
		for _, wait := range []uint64{0, 1, 99, 100, 101} {
			c := config()
			c.Symbolic = symbolic
			w := lay(t, c)
			does(t, w, join("ann", "pencil", "dev", "s"), join("ann", "pencil", "dev", "s"))
			does(t, w, world.Act{Kind: world.Begin, Text: "abc"}, world.Act{Kind: world.Request, Who: 1, Text: "web:80"})
			w.Calm(200)
			does(t, w, world.Act{Kind: world.Open, Text: "web:80"})
			w.Calm(200)
			if w.Guest(0).State() != guest.Open || w.Guest(1).State() != guest.Open {
				t.Fatal(look(w))
			}
			var taken [][]byte
			from := map[int][][]byte{}
			for conn, p := range w.Said() {
				if p[0] != hello {
					taken = append(taken, p)
					from[conn] = append(from[conn], p)
				}
			}
			does(t, w, world.Act{Kind: world.Tick, N: wait})
			scripts := [][][]byte{from[1], from[2], taken}
			for _, p := range taken {
				scripts = append(scripts, [][]byte{p}, [][]byte{p, p})
			}
			for i, script := range scripts[:min(len(scripts), 14)] {
				does(t, w, join("eve", "x", "", fmt.Sprint("den ", i)))
				n := w.Guests() - 1
				for _, p := range script {
					w.Do(world.Act{Kind: world.Begin, Who: n}) // which sends nothing, but passes a draw
					does(t, w, world.Act{Kind: world.Raw, Who: n, Data: p})
					if v, e := w.Gate().Look(w.Conn(n)); e == api.OK && v.State >= isIn {
						t.Fatalf("%q lets in: %v", script, v)
					}
				}
			}
		}
	}
}

// A tunnel isn't opened any more once the credential has changed or the policy doesn't permit it, whichever way the guest got in.
func TestP7Changes(t *testing.T) {
	for _, c := range []struct {
		line string
		want api.Errno
	}{
		{"count", api.OK}, {"key-rotate", api.OK}, {"revoke u ann", api.OK}, {"grant t bob dev", api.OK},
		{"revoke t ann", api.ErrGone}, {"restore t ann", api.ErrGone}, {"user-pass t ann pencil 0102 2", api.ErrGone}, {"ungrant t ann dev", api.ErrGone},
		{"grant t ann more", api.ErrGone}, {"user-drop t ann", api.ErrGone}, {"tenant-drop t", api.ErrGone}, {`policy "deny * * * *\n"`, api.ErrDenied}, {`policy ""`, api.ErrDenied},
	} {
		for _, symbolic := range []bool{false, true} {
			conf := config()
			conf.Symbolic = symbolic
			w := lay(t, conf)
			does(t, w, join("ann", "pencil", "dev", "s"), join("ann", "x", "", "b"))
			enter(t, w, 0)
			does(t, w, world.Act{Kind: world.Give, Who: 1}, world.Act{Kind: world.Show, Who: 1}, world.Act{Kind: world.Admin, Text: c.line})
			for n := range 2 {
				does(t, w, world.Act{Kind: world.Open, Who: n, Text: "web:80"})
				w.Calm(200)
				v, e := w.Gate().Look(w.Conn(n))
				if e != api.OK || (v.State == isOpen) != (c.want == api.OK) || (w.Guest(n).State() == guest.Open) != (c.want == api.OK) || w.Guest(n).Fault() != c.want {
					t.Error(c.line, n, v, w.Guest(n).State(), w.Guest(n).Fault())
				}
			}
		}
	}
}
