package knows_test

import (
	"fmt"
	"math/rand"
	"slices"
	"strings"
	"testing"

	"ostiary/api"
	"ostiary/box"
	"ostiary/digest"
	"ostiary/frame"
	"ostiary/gate"
	"ostiary/guard"
	"ostiary/guest"
	"ostiary/head"
	"ostiary/knows"
	"ostiary/nonce"
	"ostiary/proof"
	"ostiary/scram"
	"ostiary/ticket"
	"ostiary/world"
)

// passwords are those of the users of the gate's tenant t.
var passwords = map[string]string{"ann": "pencil", "bob": "a=b,c"}

// secrets are what is never sent.
var secrets = []string{"pencil", "a=b,c", "keeper"}

// street is a world in which a thief observes everything.
type street struct {
	t     *testing.T
	world *world.World
	mind  *knows.Mind
	heard int // how much of it he has observed
	said  int
}

// build returns a world with honest guests, who are the first ones, and with connections of the thief.
func build(t *testing.T, honest int) *street {
	t.Helper()
	w, e := world.New(gate.Config{
		Conns: 16, Nonces: nonce.Config{Room: 64, Window: 100}, Guard: guard.Config{Room: 16, Base: 1, Most: 2, Hold: 100},
		Master: []byte("keeper"), Keys: 3, Life: 100, Room: 1024, Iter: 2, Symbolic: true,
	})
	if e != api.OK {
		t.Fatal(e)
	}
	s := &street{t: t, world: w, mind: made(t, w.Gate().Hands().Box, secrets...)}
	for _, line := range []string{
		"tenant-add t", "user-add t ann pencil 0102 2", "user-add t bob a=b,c 03 1", "grant t ann dev", "grant t ann ops", "grant t bob dev",
		`policy "allow dev t * 80\nallow ops t * *\n"`,
	} {
		s.do(world.Act{Kind: world.Admin, Text: line})
	}
	for n := range 16 {
		a := world.Act{Kind: world.Join, Name: "ann", Pass: "wrong", Text: fmt.Sprint("den ", n)}
		if n < honest {
			a.Name = []string{"ann", "bob"}[n%2]
			a.Pass, a.Role, a.Text = passwords[a.Name], []string{"", "dev"}[n/2%2], fmt.Sprint("home ", n)
		}
		s.do(a)
	}
	return s
}

// do performs an act, and lets the thief observe what was sent.
func (s *street) do(a world.Act) {
	s.t.Helper()
	e := s.world.Do(a)
	if (a.Kind == world.Join || a.Kind == world.Admin) && e != api.OK {
		s.t.Fatal(a, e)
	}
	s.heard = s.observe(s.heard, s.world.Heard())
	s.said = s.observe(s.said, s.world.Said())
}

// observe lets the thief observe what he has not seen yet.
func (s *street) observe(seen int, all func(func(int, []byte) bool)) int {
	n := 0
	for _, p := range all {
		if n++; n > seen {
			s.mind.See(p)
		}
	}
	return n
}

// honestAct returns what an honest guest does next.
func (s *street) honestAct(r *rand.Rand, n int) world.Act {
	a := world.Act{Who: n, Text: "web:80", N: 1, Data: []byte("some text")}
	if s.world.Waits(n) > 0 {
		a.Kind = world.Hear
		return a
	}
	switch s.world.Guest(n).State() {
	case guest.Here:
		a.Kind = oneOf(r, world.Begin, world.Request)
		if a.Kind == world.Begin {
			a.Text = oneOf(r, "abc", "xyz")
		}
	case guest.In:
		a.Kind = world.Open
	default:
		a.Kind = oneOf(r, world.Send, world.Push, world.Pull)
	}
	return a
}

// tag returns a tag that the thief can derive.
func (s *street) tag(r *rand.Rand) []byte {
	var tags [][]byte
	for n := range s.mind.All() {
		tags = append(tags, box.Handle(n))
	}
	return oneOf(r, append(tags, make([]byte, 32))...)
}

// more lets the thief compute something new of what he can derive.
func (s *street) more(r *rand.Rand) {
	b := s.world.Gate().Hands().Box
	switch r.Intn(4) {
	case 0:
		b.Hash(s.tag(r))
	case 1:
		b.Mac(s.tag(r), oneOf(r, s.tag(r), []byte("Client Key"), []byte("Server Key")))
	default:
		b.Turn(s.tag(r), s.tag(r))
	}
}

// nonces returns the nonces that a connection was challenged with.
func (s *street) nonces(conn int) []string {
	out := []string{"d1.0000000000000001"}
	for c, p := range s.world.Heard() {
		f, _, _ := frame.Unpack(p)
		if m, e := scram.ParseChallenge(string(f.Body)); c == conn && e == api.OK {
			out = append(out, m.Nonce)
		}
		if _, text, ok := strings.Cut(string(f.Body), `nonce="`); c == conn && ok {
			text, _, _ = strings.Cut(text, `"`)
			out = append(out, text)
		}
	}
	return out
}

// forged returns a frame that the thief makes up for a connection of his, of what he has.
func (s *street) forged(r *rand.Rand, n int) []byte {
	f := frame.Frame{Kind: 2, Body: []byte(oneOf(r, "n,,n=ann,r=abc", "n,a=dev,n=bob,r=abc", "n,,n=ann,r=xyz"))}
	nonces := s.nonces(s.world.Conn(n))
	switch r.Intn(4) {
	case 0:
		m := scram.Final{Head: oneOf(r, "n,,", "n,a=dev,"), Nonce: nonces[len(nonces)-1], Proof: s.tag(r)}
		text, _ := m.Text()
		f = frame.Frame{Kind: 3, Body: []byte(text)}
	case 1:
		a := digest.Answer{User: oneOf(r, "ann", "bob"), Realm: "t", Nonce: oneOf(r, nonces...), URI: "web:80", Cnonce: "c", NC: uint32(1 + r.Intn(3)), Proof: s.tag(r)}
		text, _ := a.Text()
		request := head.Request{Method: "CONNECT", Target: "web:80"}
		if r.Intn(2) == 0 {
			request.Fields = []api.Pair{{Name: "Proxy-Authorization", Value: text}}
		}
		p, _ := request.Bytes()
		f = frame.Frame{Kind: 4, Body: p}
	case 2:
		body, _ := ticket.Ticket{Epoch: 1, Serial: uint64(1 + r.Intn(3)), To: 100, Gen: uint64(2 + r.Intn(4)), Who: api.Who{Tenant: "t", User: oneOf(r, "ann", "bob"), Role: "dev"}}.Body()
		f = frame.Frame{Kind: 5, Body: []byte(url(string(body)) + "." + url(string(s.tag(r))))}
	}
	p, e := frame.Pack(f)
	if e != api.OK {
		s.t.Fatal(f, e)
	}
	return p
}

// stolen returns something that was sent, as it was or with another tag in the place of one.
func (s *street) stolen(r *rand.Rand) []byte {
	var all [][]byte
	for _, p := range s.world.Said() {
		all = append(all, p)
	}
	for _, p := range s.world.Heard() {
		all = append(all, p)
	}
	text := string(oneOf(r, all...))
	for n := range s.mind.All() {
		for _, code := range []func(string) string{std, url, digits} {
			if r.Intn(2) == 0 {
				text = strings.ReplaceAll(text, code(handle(n)), code(string(s.tag(r))))
			}
		}
	}
	return []byte(text)
}

// isTicket reports whether a text has a ticket that the gate has issued. Whoever shows one gets in: it is no proof of a password.
func (s *street) isTicket(text []byte) bool {
	for _, p := range s.world.Heard() {
		if f, _, _ := frame.Unpack(p); f.Kind == 11 && strings.Contains(string(text), string(f.Body)) {
			return true
		}
	}
	return false
}

// outside checks that no connection of the thief has got in.
func (s *street) outside(honest int, last []byte) {
	s.t.Helper()
	for n := honest; n < s.world.Guests(); n++ {
		if v, e := s.world.Gate().Look(s.world.Conn(n)); e == api.OK && v.State >= 3 {
			s.t.Fatalf("the thief is in: %q, %v", last, v)
		}
	}
}

// underivable checks that nothing is derivable that proves who somebody is.
func (s *street) underivable() {
	s.t.Helper()
	hands := s.world.Gate().Hands()
	b := hands.Box
	tell := func(what string, tag []byte) {
		if n, ok := box.Number(tag); !ok || s.mind.Made(n) || s.mind.Text(tag) || s.mind.Text([]byte("p="+std(string(tag)))) || s.mind.Says([]byte(digits(string(tag)))) {
			s.t.Fatalf("%s is derivable: term %d", what, n)
		}
	}
	for user, pass := range passwords {
		c, _ := hands.Users.Find("t", user)
		tell("Stored", c.Secret.Stored)
		tell("Server", c.Secret.Server)
		tell("HA1", c.Secret.HA1)
		salted, _ := b.Stretch([]byte(pass), c.Secret.Salt, c.Secret.Iter)
		tell("salted", salted)
		tell("the client key", b.Mac(salted, []byte("Client Key")))
		p, v, e := proof.Client(b, pass, c.Secret.Salt, c.Secret.Iter, "a new message")
		if e != api.OK {
			s.t.Fatal(e)
		}
		tell("a proof", p)
		tell("a verdict", v)
		tell("a response", proof.Response(b, c.Secret.HA1, "CONNECT", digest.Answer{URI: "web:80", Nonce: "new", Cnonce: "c", NC: 1}))
	}
	_, sum, e := hands.Ring.Sign([]byte("ticket a new one"))
	if _, key, _ := hands.Ring.Newest(); e == api.OK {
		tell("a key", key)
		tell("a ticket's Mac", sum)
	}
}

// Whatever a thief observes and derives, he can't derive a proof without the password, and nothing that he can derive lets him in, but a ticket that was issued.
func TestP8Thief(t *testing.T) {
	r := rand.New(rand.NewSource(8))
	in, sent := 0, 0
	for range 25 {
		const honest = 6
		s := build(t, honest)
		for step := range 160 {
			n := r.Intn(honest)
			if step > 20 && r.Intn(2) == 0 {
				n = honest + r.Intn(16-honest)
				s.more(r)
				p := oneOf(r, s.forged(r, n), s.forged(r, n), s.stolen(r))
				if !s.mind.Text(p) || s.isTicket(p) {
					continue
				}
				s.do(world.Act{Kind: oneOf(r, world.Begin, world.Hear), Who: n, N: 1}) // which passes draws
				s.do(world.Act{Kind: world.Raw, Who: n, Data: p})
				s.outside(honest, p)
				sent++
				if r.Intn(4) == 0 {
					s.do(world.Act{Kind: world.Tick, N: 2})
				}
				continue
			}
			s.do(s.honestAct(r, n))
		}
		s.underivable()
		for n := range honest {
			if s.world.Guest(n).State() == guest.Open {
				in++
			}
		}
	}
	if in < 50 || sent < 500 {
		t.Error("too little has happened", in, sent)
	}
}

// All that is sent is derivable from what was observed, and no password is in it.
func TestP8Sent(t *testing.T) {
	r := rand.New(rand.NewSource(88))
	s := build(t, 16)
	for range 400 {
		s.do(s.honestAct(r, r.Intn(16)))
	}
	for _, all := range []func(func(int, []byte) bool){s.world.Heard(), s.world.Said()} {
		for _, p := range all {
			if !s.mind.Text(p) || !s.mind.Says(p) {
				t.Errorf("%q", p)
			}
		}
	}
	if len(s.mind.Known()) < 30 {
		t.Error(s.mind.Known())
	}
}

// Whoever knows the password can derive all that proves it: the thief's trouble is nothing else.
func TestP8Password(t *testing.T) {
	r := rand.New(rand.NewSource(888))
	s := build(t, 4)
	for range 100 {
		s.do(s.honestAct(r, r.Intn(4)))
	}
	b := s.world.Gate().Hands().Box
	for user, pass := range passwords {
		var others [][]byte
		for _, other := range secrets {
			if other != pass {
				others = append(others, []byte(other))
			}
		}
		m, e := knows.New(b, others...)
		if e != api.OK {
			t.Fatal(e)
		}
		c, _ := s.world.Gate().Hands().Users.Find("t", user)
		p, v, _ := proof.Client(b, pass, c.Secret.Salt, c.Secret.Iter, "a message")
		response := proof.Response(b, c.Secret.HA1, "CONNECT", digest.Answer{URI: "web:80", Nonce: "n", Cnonce: "c", NC: 1})
		for _, tag := range [][]byte{p, v, response, c.Secret.Stored, c.Secret.Server, c.Secret.HA1} {
			if !m.Text(tag) || s.mind.Text(tag) {
				t.Errorf("%s: %x", user, tag)
			}
		}
		for n, x := range b.Terms() {
			if x.Kind == box.Stretch && m.Made(n) != (string(x.Key) == pass || !slices.Contains(secrets, string(x.Key))) {
				t.Error(user, x)
			}
		}
	}
}
