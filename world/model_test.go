package world_test

import (
	"fmt"
	"math/rand"
	"strings"
	"testing"

	"ostiary/api"
	"ostiary/gate"
	"ostiary/guest"
	"ostiary/world"
)

// model is a world by the chapter's table, row by row. It has a gate and guests of its own.
type model struct {
	gate   *gate.Gate
	guests []*guest.Guest
	conns  []int
	queues [][]string
	got    []string
	draws  int
	heard  []string
	said   []string
}

// draw passes a draw.
func (m *model) draw() {
	m.draws++
	m.gate.Step(gate.Input{Kind: gate.Draw, Text: fmt.Sprintf("d%d", m.draws)})
}

// sort puts what goes out where it goes to.
func (m *model) sort(n int, r gate.Result) api.Errno {
	for _, o := range r.Out {
		if o.To == 1 {
			m.got[n] += string(o.Data)
		} else {
			m.queues[n] = append(m.queues[n], string(o.Data))
			m.heard = append(m.heard, fmt.Sprint(o.Conn, " ", string(o.Data)))
		}
	}
	return r.Code
}

// send sends what a guest returned.
func (m *model) send(n int, p []byte, e api.Errno) api.Errno {
	if len(p) > 0 {
		m.said = append(m.said, fmt.Sprint(m.conns[n], " ", string(p)))
		m.sort(n, m.gate.Step(gate.Input{Kind: gate.Bytes, Conn: m.conns[n], Data: p}))
	}
	return e
}

// take takes the first frame of a queue.
func (m *model) take(n int) string {
	p := m.queues[n][0]
	m.queues[n] = m.queues[n][1:]
	return p
}

// hear lets a guest hear.
func (m *model) hear(n int, draw bool) api.Errno {
	if len(m.queues[n]) == 0 {
		return api.ErrNone
	}
	p := m.take(n)
	if draw {
		m.draw()
	}
	reply, e := m.guests[n].Hear([]byte(p))
	return m.send(n, reply, e)
}

// join adds a guest.
func (m *model) join(a world.Act) api.Errno {
	if len(m.guests) == 16 {
		return api.ErrFull
	}
	g, e := guest.Make(m.gate.Hands().Box, api.Who{Tenant: "t", User: a.Name, Role: a.Role}, a.Pass)
	if e != api.OK {
		return e
	}
	r := m.gate.Step(gate.Input{Kind: gate.Dial, Source: a.Text})
	if r.Code != api.OK {
		return r.Code
	}
	m.guests = append(m.guests, g)
	m.conns = append(m.conns, r.Conn)
	m.queues = append(m.queues, nil)
	m.got = append(m.got, "")
	p, e := g.Hello()
	return m.send(len(m.guests)-1, p, e)
}

// do does what the table says.
func (m *model) do(a world.Act) api.Errno {
	if a.Kind < 1 || a.Kind > 16 {
		return api.ErrForm
	}
	switch a.Kind {
	case world.Join:
		return m.join(a)
	case world.Tick:
		m.gate.Step(gate.Input{Kind: gate.Tick, Ticks: a.N})
		return api.OK
	case world.Admin:
		return m.gate.Step(gate.Input{Kind: gate.Admin, Text: a.Text}).Code
	}
	n := a.Who
	if n < 0 || n >= len(m.guests) {
		return api.ErrArg
	}
	g := m.guests[n]
	var p []byte
	var e api.Errno
	switch a.Kind {
	case world.Begin:
		m.draw()
		p, e = g.Begin(a.Text)
	case world.Request:
		m.draw()
		p, e = g.Request(a.Text, "c")
	case world.Show:
		p, e = g.Show()
	case world.Open:
		p, e = g.Open(a.Text)
	case world.Send:
		p, e = g.Send(a.Data)
	case world.Bye:
		p, e = g.Bye()
	case world.Hear:
		return m.hear(n, a.N > 0)
	case world.Lose:
		if len(m.queues[n]) == 0 {
			return api.ErrNone
		}
		m.take(n)
	case world.Turn:
		if len(m.queues[n]) == 0 {
			return api.ErrNone
		}
		q := []byte(m.queues[n][0])
		q[a.N%uint64(len(q))] ^= 1
		m.queues[n][0] = string(q)
	case world.Raw:
		p = a.Data
	case world.Pull:
		return m.sort(n, m.gate.Step(gate.Input{Kind: gate.Drain, Conn: m.conns[n], Ticks: a.N}))
	case world.Push:
		return m.sort(n, m.gate.Step(gate.Input{Kind: gate.Up, Conn: m.conns[n], Data: a.Data}))
	case world.Give:
		if a.N >= uint64(len(m.guests)) {
			return api.ErrArg
		}
		g.SetTicket(m.guests[a.N].Ticket())
	}
	return m.send(n, p, e)
}

// calm does what the chapter says of Calm.
func (m *model) calm(most int) int {
	for round := 0; ; round++ {
		waiting := 0
		for _, q := range m.queues {
			waiting += len(q)
		}
		if waiting == 0 || round >= most || round >= 200 {
			return round
		}
		for n := range m.guests {
			if len(m.queues[n]) > 0 {
				m.hear(n, true)
			}
		}
	}
}

// look is all that there is to see of the model, in the words of the world's look.
func (m *model) look() string {
	var out strings.Builder
	g := m.gate
	fmt.Fprintf(&out, "%d %d %d %x %d\n", g.Now(), g.Draws(), g.Checks(), g.Trace().Chain(), g.Hands().Nonces.Serial())
	for conn := range g.Conns() {
		v, _ := g.Look(conn)
		fmt.Fprintf(&out, "%d %v\n", conn, v)
	}
	for n, c := range m.guests {
		fmt.Fprintf(&out, "%d %d %d %q %q %d %q\n", m.conns[n], len(m.queues[n]), c.State(), c.Ticket(), c.Got(), c.Fault(), m.got[n])
	}
	fmt.Fprintf(&out, "%q %q", m.heard, m.said)
	return out.String()
}

// oneOf returns one of these.
func oneOf[T any](r *rand.Rand, l ...T) T { return l[r.Intn(len(l))] }

// targets are what tunnels may lead to; not all are permitted, and some are none.
var targets = []string{"web:80", "web:80", "web:80", "db:80", "db:7", "bad:80", "web", ""}

// someRaw returns bytes that somebody may send: parts of what was sent, whole or broken.
func someRaw(r *rand.Rand, w *world.World) []byte {
	var all [][]byte
	for _, p := range w.Said() {
		all = append(all, p)
	}
	for _, p := range w.Heard() {
		all = append(all, p)
	}
	if len(all) == 0 || r.Intn(4) == 0 {
		return packed(byte(r.Intn(17)), oneOf(r, "", "t", "u", "n,,n=ann,r=x", "n,a=ops,n=ann,r=x", "web:80", "x", "CONNECT web:80 HTTP/1.1\r\n\r\n"))
	}
	p := oneOf(r, all...)
	switch r.Intn(4) {
	case 0:
		p = p[:r.Intn(len(p)+1)]
	case 1:
		p[r.Intn(len(p))] ^= 1 << r.Intn(8)
	}
	return p
}

// next returns an act that guest n could do now, so that something happens.
func next(r *rand.Rand, w *world.World, n int) world.Act {
	a := world.Act{Who: n, Text: oneOf(r, targets...), Data: []byte(strings.Repeat("abcde", oneOf(r, 0, 1, 1, 2, 120, 410))), N: uint64(r.Intn(4))}
	if w.Waits(n) > 0 && r.Intn(3) > 0 {
		a.Kind = oneOf(r, world.Hear, world.Hear, world.Hear, world.Hear, world.Hear, world.Hear, world.Hear, world.Hear, world.Lose, world.Turn)
		return a
	}
	switch w.Guest(n).State() {
	case guest.Here:
		a.Kind = oneOf(r, world.Begin, world.Request, world.Request, world.Show, world.Give)
		if w.Guest(n).Ticket() != "" {
			a.Kind = world.Show
		}
		if a.Kind == world.Begin {
			a.Text = oneOf(r, "abc", "abc", "x", strings.Repeat("z", 45), strings.Repeat("z", 46), ",")
		}
		if a.Kind == world.Give {
			for a.N = range uint64(w.Guests()) {
				if w.Guest(int(a.N)).Ticket() != "" {
					break
				}
			}
		}
	case guest.In:
		a.Kind = world.Open
	case guest.Open:
		a.Kind = oneOf(r, world.Send, world.Push, world.Pull, world.Send, world.Push, world.Pull, world.Pull, world.Bye)
		a.N = oneOf(r, uint64(0), 1, 5, 700, 1<<63)
	default:
		a.Kind = oneOf(r, kinds...)
	}
	return a
}

// someAct returns an act.
func someAct(r *rand.Rand, w *world.World) world.Act {
	guests := w.Guests()
	if guests == 0 || guests < 17 && r.Intn(14) == 0 {
		return join(oneOf(r, "ann", "ann", "a\u00adnn", "bob", "eve", ""), oneOf(r, "pencil", "pencil", "pencil", "secret", "x"), oneOf(r, "", "dev", "dev", "ops", "boss"), oneOf(r, "s", "b", "c", "d", "e", ""))
	}
	n := r.Intn(guests)
	switch r.Intn(16) {
	case 0:
		return world.Act{Kind: world.Raw, Who: n, Data: someRaw(r, w)}
	case 1:
		return world.Act{Kind: world.Tick, N: oneOf(r, uint64(1), 3, 9, 60, 120)}
	case 2:
		return world.Act{Kind: world.Admin, Text: oneOf(r, "revoke t bob", "restore t bob", "key-rotate", "sweep", "grant t bob dev", "ungrant t bob dev", "user-pass t bob secret 05 3", "source-clear s", "ticket-revoke 1", "x")}
	case 3:
		return world.Act{Kind: r.Intn(20) - 1, Who: r.Intn(guests+2) - 1, Text: oneOf(r, targets...), Data: []byte("xy"), N: oneOf(r, uint64(0), 1, 2, 99, 1<<63)}
	}
	return next(r, w, n)
}

// Under random acts the world does what the model does.
func TestP27_1Model(t *testing.T) {
	r := rand.New(rand.NewSource(27))
	states, errnos, kindsSeen := map[int]int{}, map[string]int{}, map[int]int{}
	for range 400 {
		c := config()
		c.Symbolic = r.Intn(2) == 0
		c.Conns = oneOf(r, 3, 16, 16)
		c.Nonces.Room = oneOf(r, 2, 16)
		w := lay(t, c)
		g, _ := gate.New(c)
		m := &model{gate: g}
		for _, line := range setup {
			m.do(world.Act{Kind: world.Admin, Text: line})
		}
		for range 250 {
			if r.Intn(20) == 0 {
				most := oneOf(r, -1, 0, 1, 2, 200, 999)
				if got, want := w.Calm(most), m.calm(most); got != want {
					t.Fatalf("Calm(%d): %d, not %d", most, got, want)
				}
			}
			a := someAct(r, w)
			got, want := w.Do(a), m.do(a)
			if got != want {
				t.Fatalf("%+v: %d, not %d", a, got, want)
			}
			kindsSeen[a.Kind]++
			errnos[fmt.Sprint(a.Kind, " ", got)]++
		}
		if got, want := look(w), m.look(); got != want {
			t.Fatalf("%s\nnot\n%s", got, want)
		}
		for n := range w.Guests() {
			states[w.Guest(n).State()]++
		}
	}
	for state := guest.Here; state <= guest.Gone; state++ {
		if states[state] < 10 {
			t.Error("too few guests in a state", states)
		}
	}
	for _, kind := range kinds {
		if kindsSeen[kind] < 500 || errnos[fmt.Sprint(kind, " ", 0)] < 100 {
			t.Error("too few acts of kind", kind, kindsSeen, errnos)
		}
	}
}
