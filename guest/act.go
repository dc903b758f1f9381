package guest

import (
	"ostiary/api"
	"ostiary/frame"
	"ostiary/head"
	"ostiary/scram"
	"ostiary/wire"
)

// noBinding is the flag of a client that can't bind the exchange to its connection.
const noBinding = "n"

// Hello names the tenant.
func (g *Guest) Hello() ([]byte, api.Errno) {
	if errno := g.mustBe(New); errno != api.OK {
		return nil, errno
	}
	return g.send(wire.Hello, []byte(g.who.Tenant), Here)
}

// Begin begins a SCRAM exchange.
func (g *Guest) Begin(nonce string) ([]byte, api.Errno) {
	if errno := g.mustBe(Here); errno != api.OK {
		return nil, errno
	}
	g.first = scram.First{Flag: noBinding, Authz: g.who.Role, User: g.who.User, Nonce: nonce}
	text, errno := g.first.Text()
	if errno != api.OK {
		return nil, errno
	}
	return g.send(wire.First, []byte(text), Asking)
}

// Request asks for a tunnel, and first to be challenged.
func (g *Guest) Request(target, cnonce string) ([]byte, api.Errno) {
	if errno := g.mustBe(Here); errno != api.OK {
		return nil, errno
	}
	if !isTarget(target) || !scram.Nonce(cnonce) {
		return nil, api.ErrForm
	}
	g.target = target
	g.cnonce = cnonce
	return g.sendRequest()
}

// Show shows the ticket. The gate doesn't tell whether it is a good one, so the guest goes on as if it was.
func (g *Guest) Show() ([]byte, api.Errno) {
	if errno := g.mustBe(Here); errno != api.OK {
		return nil, errno
	}
	if g.ticket == "" {
		return nil, api.ErrNone
	}
	return g.send(wire.Show, []byte(g.ticket), In)
}

// Open asks for a tunnel, which the guest has when the gate says so.
func (g *Guest) Open(target string) ([]byte, api.Errno) {
	if errno := g.mustBe(In); errno != api.OK {
		return nil, errno
	}
	if !isTarget(target) {
		return nil, api.ErrForm
	}
	return g.send(wire.Open, []byte(target), In)
}

// Send sends bytes through the tunnel.
func (g *Guest) Send(p []byte) ([]byte, api.Errno) {
	if errno := g.mustBe(Open); errno != api.OK {
		return nil, errno
	}
	return g.send(wire.Data, p, Open)
}

// Bye leaves. A guest that has not come yet can't leave.
func (g *Guest) Bye() ([]byte, api.Errno) {
	if g == nil {
		return nil, api.ErrNone
	}
	if g.state == New || g.state == Gone {
		return nil, api.ErrState
	}
	return g.send(wire.Close, nil, Gone)
}

// mustBe returns the error of a method that belongs to a state.
func (g *Guest) mustBe(state int) api.Errno {
	if g == nil {
		return api.ErrNone
	}
	if g.state != state {
		return api.ErrState
	}
	return api.OK
}

// send returns a frame and takes the guest to the state behind it. If there is no such frame, the state stays.
func (g *Guest) send(kind byte, body []byte, state int) ([]byte, api.Errno) {
	p, errno := frame.Pack(frame.Frame{Kind: kind, Body: body})
	if errno != api.OK {
		return nil, errno
	}
	g.state = state
	return p, api.OK
}

// sendRequest returns the frame of the request, with these fields.
func (g *Guest) sendRequest(fields ...api.Pair) ([]byte, api.Errno) {
	body, errno := head.Request{Method: wire.Connect, Target: g.target, Fields: fields}.Bytes()
	if errno != api.OK {
		return nil, errno
	}
	return g.send(wire.Ask, body, Waiting)
}

// isTarget reports whether a tunnel can lead to a target.
func isTarget(target string) bool {
	_, _, ok := head.Split(target)
	return ok
}
