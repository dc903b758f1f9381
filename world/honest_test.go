package world_test

import (
	"bytes"
	"fmt"
	"math/rand"
	"strconv"
	"strings"
	"testing"

	"ostiary/api"
	"ostiary/b64"
	"ostiary/guest"
	"ostiary/order"
	"ostiary/world"
)

// person is a user of the gate: the name and the password as the administrator gave them, and other forms of them.
type person struct {
	name, pass, role string
	names, passes    []string
}

// people are odd in every way that a name or a password can be.
var people = []person{
	{"ann", "pencil", "dev", []string{"ann", "a\u00adnn", "\u200bann\ufeff"}, []string{"pencil", "pen\u00adcil"}},
	{"a=b,c", "p\"w\\,=", "ops", []string{"a=b,c", "a=b\u2060,c"}, []string{"p\"w\\,=", "p\"w\\\ufe0f,="}},
	{"Zo\u00eb \"Q\" \\", "\u3000k\u00a0", "dev", []string{"Zo\u00eb\u00a0\"Q\" \\", "Zo\u00eb \"Q\"\u3000\\"}, []string{" k ", "\u2000k\u1680"}},
	{"\U0001f600", strings.Repeat("x", 64), "dev", []string{"\U0001f600"}, []string{strings.Repeat("x", 64)}},
	{strings.Repeat("n", 32), "n", "ops", []string{strings.Repeat("n", 32)}, []string{"n"}},
}

// hire makes users of the people.
func hire(t *testing.T, w *world.World, r *rand.Rand) {
	t.Helper()
	run := func(verb string, args ...string) {
		line, e := order.Command{Verb: verb, Args: args}.Text()
		if e != api.OK {
			t.Fatal(verb, args, e)
		}
		does(t, w, world.Act{Kind: world.Admin, Text: line})
	}
	run("tenant-add", "t")
	for _, p := range people {
		salt := make([]byte, 1+r.Intn(32))
		r.Read(salt)
		run("user-add", "t", p.name, p.pass, b64.Hex(salt), strconv.Itoa(1+r.Intn(3)))
		run("grant", "t", p.name, p.role)
	}
	run("user-add", "t", "other", "other", "01", "1")
	run("policy", "allow dev t web* 80-90\nallow ops t * *\n")
}

// visitor is an honest guest who knows what it wants.
type visitor struct {
	n        int // its index
	who      person
	way      int // which way it gets in by
	target   string
	up, down []byte // what was to pass
	chunks   int    // how many more times something is to pass
}

// The ways in.
const (
	byScram = iota
	byDigest
	byTicket
)

// act returns the visitor's next act, or false if it waits for something or has nothing more to do.
func (v *visitor) act(r *rand.Rand, w *world.World) (world.Act, bool) {
	a := world.Act{Who: v.n, N: uint64(r.Intn(2))}
	if w.Waits(v.n) > 0 {
		a.Kind = world.Hear
		return a, true
	}
	switch w.Guest(v.n).State() {
	case guest.Here:
		return v.enter(r, w, a)
	case guest.In:
		a.Kind, a.Text = world.Open, v.target
		return a, true
	case guest.Open:
		return v.pass(r, w, a)
	}
	return a, false
}

// enter returns the act that the visitor gets in by.
func (v *visitor) enter(r *rand.Rand, w *world.World, a world.Act) (world.Act, bool) {
	a.Kind, a.Text = world.Request, v.target
	switch v.way {
	case byScram:
		a.Kind, a.Text = world.Begin, strings.Repeat("~", 1+r.Intn(40))
	case byTicket:
		if w.Guest(v.n).Ticket() != "" {
			a.Kind = world.Show
			return a, true
		}
		a.Kind = world.Give
		for n := range w.Guests() {
			if w.Guest(n).Ticket() != "" && isOf(w, n, v.who) {
				a.N = uint64(n)
				return a, true
			}
		}
		return a, false
	}
	return a, true
}

// isOf reports whether guest n got in as that person.
func isOf(w *world.World, n int, who person) bool {
	v, e := w.Gate().Look(w.Conn(n))
	return e == api.OK && v.Who == api.Who{Tenant: "t", User: who.name, Role: who.role}
}

// pass returns an act by which bytes pass. No more wait than there is room for.
func (v *visitor) pass(r *rand.Rand, w *world.World, a world.Act) (world.Act, bool) {
	waiting := len(v.up) - len(w.Got(v.n))
	if v.chunks == 0 {
		a.Kind, a.N = world.Pull, 1<<20
		return a, waiting > 0
	}
	v.chunks--
	switch r.Intn(3) {
	case 0:
		a.Kind, a.Data = world.Send, make([]byte, r.Intn(1024-waiting+1))
		r.Read(a.Data)
		v.up = append(v.up, a.Data...)
	case 1:
		a.Kind, a.Data = world.Push, make([]byte, r.Intn(1025))
		r.Read(a.Data)
		v.down = append(v.down, a.Data...)
	case 2:
		a.Kind, a.N = world.Pull, uint64(r.Intn(1500))
	}
	return a, true
}

// noise is what others do meanwhile: the administrator, who doesn't change the visitors' credentials, time, which doesn't pass too fast, and a guest who has nothing to do with them.
func noise(r *rand.Rand, w *world.World, stranger int) {
	switch r.Intn(6) {
	case 0:
		w.Do(world.Act{Kind: world.Tick, N: uint64(r.Intn(2))})
	case 1:
		w.Do(world.Act{Kind: world.Admin, Text: oneOf(r, "user-pass t other x 02 3", "grant t other dev", "ungrant t other dev", "revoke t other", "restore t other", "user-drop t other", "user-add t other other 01 1", "sweep", "count", "show-policy", "tenant-add u", "tenant-drop u", "show-user t ann")})
	case 2:
		w.Do(world.Act{Kind: world.Admin, Text: oneOf(r, "key-rotate", "show-keys", "show-keys", "show-keys", "show-keys", "show-keys", "show-keys", "show-keys")})
	case 3:
		w.Do(world.Act{Kind: world.Raw, Who: stranger, Data: someRaw(r, w)})
	case 4:
		w.Do(world.Act{Kind: oneOf(r, world.Begin, world.Request, world.Hear, world.Lose, world.Turn, world.Bye), Who: stranger, Text: oneOf(r, "abc", "web:80"), N: uint64(r.Intn(9))})
	}
}

// welcome lets honest visitors into a world where others act, too.
func welcome(t *testing.T, r *rand.Rand, symbolic bool) (*world.World, []*visitor) {
	t.Helper()
	c := config()
	c.Symbolic = symbolic
	c.Nonces.Room, c.Nonces.Window, c.Guard.Room, c.Keys, c.Life = 64, 1000, 64, 8, 1000
	w := made(t, c)
	hire(t, w, r)
	does(t, w, join("ann", "wrong", "", "stranger"))
	var visitors []*visitor
	for n := range r.Intn(15) {
		p := oneOf(r, people...)
		v := &visitor{n: n + 1, who: p, way: r.Intn(3), target: oneOf(r, "web:80", "WEB-1.x:90"), chunks: r.Intn(12)}
		does(t, w, join(oneOf(r, p.names...), oneOf(r, p.passes...), oneOf(r, "", p.role), oneOf(r, "home", fmt.Sprint("10.0.0.", n))))
		visitors = append(visitors, v)
	}
	for idle := 0; idle < 200 && len(visitors) > 0; idle++ {
		v := oneOf(r, visitors...)
		a, ok := v.act(r, w)
		if ok {
			idle = 0
			fails(t, w, a, api.OK)
		}
		if r.Intn(3) == 0 {
			noise(r, w, 0)
		}
	}
	return w, visitors
}

// An honest guest is admitted, and bytes pass unchanged in both directions, whatever others do meanwhile.
func TestP27_3Honest(t *testing.T) {
	r := rand.New(rand.NewSource(273))
	ways, passed := map[int]int{}, 0
	for round := range 200 {
		w, visitors := welcome(t, r, round%2 == 1)
		for _, v := range visitors {
			view, e := w.Gate().Look(w.Conn(v.n))
			if w.Guest(v.n).State() == guest.Here && v.way == byTicket {
				continue // there was nobody to give it a ticket
			}
			if w.Guest(v.n).State() != guest.Open || e != api.OK || view.State != isOpen || view.Target != v.target || !isOf(w, v.n, v.who) {
				t.Fatal(*v, w.Guest(v.n).State(), w.Guest(v.n).Fault(), view, e)
			}
			if !bytes.Equal(w.Got(v.n), v.up) || !bytes.Equal(w.Guest(v.n).Got(), v.down) {
				t.Fatal(*v, "other bytes have passed")
			}
			ways[v.way]++
			passed += len(v.up) + len(v.down)
		}
	}
	if ways[byScram] < 100 || ways[byDigest] < 100 || ways[byTicket] < 100 || passed < 100000 {
		t.Error("too little has happened", ways, passed)
	}
}

// The same by nothing but Calm, as in the chapter's example.
func TestP27_3Calm(t *testing.T) {
	for _, symbolic := range []bool{false, true} {
		c := config()
		c.Symbolic = symbolic
		w := made(t, c)
		hire(t, w, rand.New(rand.NewSource(1)))
		n := 0
		for _, p := range people {
			for i, way := range []int{byScram, byDigest, byTicket} {
				does(t, w, join(oneOf(rand.New(rand.NewSource(int64(n))), p.names...), p.passes[len(p.passes)-1], "", fmt.Sprint("home ", n)))
				switch way {
				case byScram:
					does(t, w, world.Act{Kind: world.Begin, Who: n, Text: "abc"})
				case byDigest:
					does(t, w, world.Act{Kind: world.Request, Who: n, Text: "web:80"})
				case byTicket:
					does(t, w, world.Act{Kind: world.Give, Who: n, N: uint64(n - i)}, world.Act{Kind: world.Show, Who: n})
				}
				w.Calm(200)
				if way != byDigest {
					does(t, w, world.Act{Kind: world.Open, Who: n, Text: "web:80"})
					w.Calm(200)
				}
				does(t, w, world.Act{Kind: world.Send, Who: n, Data: []byte("up")}, world.Act{Kind: world.Push, Who: n, Data: []byte("down")}, world.Act{Kind: world.Pull, Who: n, N: 9})
				w.Calm(200)
				if w.Guest(n).State() != guest.Open || string(w.Got(n)) != "up" || string(w.Guest(n).Got()) != "down" || !isOf(w, n, p) {
					t.Error(p.name, way, look(w))
				}
				n++
			}
		}
	}
}
