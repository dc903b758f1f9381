package world

import (
	"ostiary/api"
	"ostiary/gate"
	"ostiary/guest"
)

// The kinds of acts.
const (
	Join    = 1
	Begin   = 2
	Request = 3
	Show    = 4
	Open    = 5
	Send    = 6
	Bye     = 7
	Hear    = 8
	Lose    = 9
	Turn    = 10
	Raw     = 11
	Pull    = 12
	Push    = 13
	Tick    = 14
	Admin   = 15
	Give    = 16
)

// cnonce is that of all requests.
const cnonce = "c"

// Act is what happens.
type Act struct {
	Kind int
	Who  int
	Name string
	Pass string
	Role string
	Text string
	Data []byte
	N    uint64
}

// Do performs an act.
func (w *World) Do(a Act) api.Errno {
	if w == nil {
		return api.ErrNone
	}
	if a.Kind < Join || a.Kind > Give {
		return api.ErrForm
	}
	switch a.Kind {
	case Join:
		return w.join(a)
	case Tick:
		return w.gate.Step(gate.Input{Kind: gate.Tick, Ticks: a.N}).Code
	case Admin:
		return w.gate.Step(gate.Input{Kind: gate.Admin, Text: a.Text}).Code
	}
	s := w.seat(a.Who)
	if s == nil {
		return api.ErrArg
	}
	return s.do(a)
}

// join adds a guest, who has a connection and has named its tenant.
func (w *World) join(a Act) api.Errno {
	if len(w.seats) >= mostGuests {
		return api.ErrFull
	}
	g, errno := guest.Make(w.gate.Hands().Box, api.Who{Tenant: tenant, User: a.Name, Role: a.Role}, a.Pass)
	if errno != api.OK {
		return errno
	}
	dialed := w.gate.Step(gate.Input{Kind: gate.Dial, Source: a.Text})
	if dialed.Code != api.OK {
		return dialed.Code
	}
	s := &seat{Guest: g, world: w, conn: dialed.Conn}
	w.seats = append(w.seats, s)
	return s.say(s.Hello())
}

// do performs an act of a guest, or one that happens to it. A guest that begins to authenticate is to be challenged, for which the gate needs a draw.
func (s *seat) do(a Act) api.Errno {
	switch a.Kind {
	case Begin:
		s.world.draw()
		return s.say(s.Begin(a.Text))
	case Request:
		s.world.draw()
		return s.say(s.Request(a.Text, cnonce))
	case Show:
		return s.say(s.Show())
	case Open:
		return s.say(s.Open(a.Text))
	case Send:
		return s.say(s.Send(a.Data))
	case Bye:
		return s.say(s.Bye())
	case Hear:
		return s.hear(a.N != 0)
	case Lose:
		return s.lose()
	case Turn:
		return s.turn(a.N)
	case Raw:
		return s.say(a.Data, api.OK)
	case Pull:
		return s.step(gate.Input{Kind: gate.Drain, Ticks: a.N})
	case Push:
		return s.step(gate.Input{Kind: gate.Up, Data: a.Data})
	}
	return s.receive(a.N) // Give
}

// receive takes over the ticket of another guest, or has none if that one has none.
func (s *seat) receive(from uint64) api.Errno {
	if from >= uint64(len(s.world.seats)) {
		return api.ErrArg
	}
	s.SetTicket(s.world.seats[from].Ticket())
	return api.OK
}
