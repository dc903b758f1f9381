package gate

import (
	"slices"
	"strconv"
	"strings"

	"ostiary/api"
	"ostiary/b64"
	"ostiary/cred"
	"ostiary/frame"
	"ostiary/head"
	"ostiary/name"
	"ostiary/pipe"
	"ostiary/talk"
	"ostiary/ticket"
	"ostiary/wire"
)

// The states of a connection.
const (
	fresh = iota
	known
	asked
	inside
	opened
)

// The kinds of events.
const (
	eventDial   = "dial"
	eventHang   = "hang"
	eventAdmin  = "admin"
	eventShut   = "shut"
	eventLocked = "locked"
	eventHello  = "hello"
	eventFail   = "fail"
	eventEnter  = "enter"
	eventResume = "resume"
	eventDeny   = "deny"
	eventOpen   = "open"
	eventClose  = "close"
)

// Where outputs go to.
const (
	toClient   = 0
	toUpstream = 1
)

const (
	noConn  = 0 // in an event
	noRole  = "-"
	space   = " "
	piece   = 512 // bytes in a frame from upstream
	nothing = ""  // the text of an event that has none
)

// conn is a connection.
type conn struct {
	number int
	view   View // what there is to see of it
	reader *frame.Reader
	talk   *talk.Talk // while it is asked
	tunnel *pipe.Pipe // while it is open
}

// newConn returns a connection that is fresh.
func newConn(number int, source string) *conn {
	return &conn{number: number, view: View{Source: source, State: fresh}, reader: frame.NewReader()}
}

// visit is the processing of one input for one connection.
type visit struct {
	gate *Gate
	conn *conn
	gone bool // whether the connection was removed
	out  []Output
}

// reach processes an input for a connection.
func (g *Gate) reach(in Input) Result {
	c := g.find(in.Conn)
	if c == nil {
		return Result{Code: api.ErrNone}
	}
	v := &visit{gate: g, conn: c}
	errno := api.OK
	switch in.Kind {
	case Bytes:
		v.receive(in.Data)
	case Drain:
		errno = v.drain(in.Ticks)
	case Up:
		errno = v.fromUpstream(in.Data)
	case Hang:
		v.remove(eventHang)
	}
	return Result{Code: errno, Out: v.out}
}

// receive takes bytes from the client. The reader may not hold all of them at once, but it holds any frame, so that there is room again after its frames were processed.
func (v *visit) receive(data []byte) {
	for len(data) > 0 && !v.gone {
		n := v.conn.reader.Feed(data)
		data = data[n:]
		v.frames()
	}
}

// frames processes the frames that are complete.
func (v *visit) frames() {
	for f := range v.conn.reader.Frames() {
		v.process(f)
		if v.gone {
			return
		}
	}
	if errno := v.conn.reader.Broken(); errno != api.OK {
		v.refuse(errno)
		v.remove(eventShut)
	}
}

// process processes one frame.
func (v *visit) process(f frame.Frame) {
	switch f.Kind {
	case wire.Hello:
		v.handle(fresh, v.hello, f.Body)
	case wire.First:
		v.handle(known, v.first, f.Body)
	case wire.Final:
		v.handle(asked, v.final, f.Body)
	case wire.Ask:
		v.handle(known, v.ask, f.Body)
	case wire.Show:
		v.handle(known, v.show, f.Body)
	case wire.Open:
		v.handle(inside, v.open, f.Body)
	case wire.Data:
		v.handle(opened, v.data, f.Body)
	case wire.Close:
		v.send(wire.Closed, nil)
		v.remove(eventClose)
	default:
		v.refuse(api.ErrForm)
	}
}

// handle passes the body of a frame to its handler in the state that it belongs to. What the handler returns is an error that the client is told.
func (v *visit) handle(state int, handler func(body []byte) api.Errno, body []byte) {
	errno := api.ErrState
	if v.conn.view.State == state {
		errno = handler(body)
	}
	if errno != api.OK {
		v.refuse(errno)
	}
}

// hello takes the tenant.
func (v *visit) hello(body []byte) api.Errno {
	tenant := string(body)
	if !name.Plain(tenant) {
		return api.ErrSign
	}
	v.conn.view.Tenant = tenant
	v.conn.view.State = known
	v.log(eventHello, tenant)
	return api.OK
}

// first begins an exchange. If the hands lack what it needs, it is nil, and says so itself.
func (v *visit) first(body []byte) api.Errno {
	if errno := v.attempt(); errno != api.OK {
		return errno
	}
	draw, ok := v.gate.takeDraw()
	if !ok {
		return api.ErrFull
	}
	exchange, _ := talk.New(v.gate.office(), v.conn.view.Tenant)
	reply, errno := exchange.First(string(body), draw, v.gate.Now())
	v.send(wire.Say, []byte(reply))
	if errno != api.OK {
		v.logError(eventFail, errno)
		return api.OK
	}
	v.conn.talk = exchange
	v.conn.view.State = asked
	return api.OK
}

// final ends an exchange, also if the attempt is locked.
func (v *visit) final(body []byte) api.Errno {
	exchange := v.conn.talk
	v.conn.talk = nil
	v.conn.view.State = known
	if errno := v.attempt(); errno != api.OK {
		return errno
	}
	reply, errno := exchange.Final(string(body), v.gate.Now())
	v.send(wire.Say, []byte(reply))
	if exchange.Checked() {
		v.gate.checks++
	}
	if errno != api.OK {
		v.fail(errno, exchange.Checked())
		return api.OK
	}
	user, role, _ := exchange.Who()
	v.enter(eventEnter, identity(user, role), user.Gen)
	v.sendTicket()
	return api.OK
}

// show takes a ticket. The client isn't told what is wrong with it.
func (v *visit) show(body []byte) api.Errno {
	if errno := v.attempt(); errno != api.OK {
		return errno
	}
	t, errno := v.gate.hands.Tickets.Open(string(body), v.gate.Now())
	if errno == api.OK && !v.mayResume(t) {
		errno = api.ErrGone
	}
	switch errno {
	case api.OK:
		v.enter(eventResume, t.Who, t.Gen)
		return api.OK
	case api.ErrForm, api.ErrLong, api.ErrProof:
		v.fail(errno, true)
	default:
		v.fail(errno, false)
	}
	return api.ErrDenied
}

// open opens a tunnel.
func (v *visit) open(body []byte) api.Errno {
	errno := v.connect(string(body))
	if errno == api.OK {
		v.send(wire.Opened, body)
	}
	return errno
}

// data passes bytes into the tunnel.
func (v *visit) data(body []byte) api.Errno {
	n, _ := v.conn.tunnel.Write(pipe.Up, body)
	if n < len(body) {
		v.remove(eventShut)
		return api.ErrFull
	}
	return api.OK
}

// drain passes bytes out of the tunnel, to the upstream server.
func (v *visit) drain(most uint64) api.Errno {
	if v.conn.view.State != opened {
		return api.ErrState
	}
	data, _ := v.conn.tunnel.Read(pipe.Up, int(min(most, api.MaxPipe)))
	if len(data) > 0 {
		v.out = append(v.out, Output{Conn: v.conn.number, To: toUpstream, Data: data})
	}
	return api.OK
}

// fromUpstream passes bytes of the upstream server to the client.
func (v *visit) fromUpstream(data []byte) api.Errno {
	if v.conn.view.State != opened {
		return api.ErrState
	}
	v.conn.tunnel.Write(pipe.Down, data)
	for part := range v.conn.tunnel.Chunks(pipe.Down, piece) {
		v.send(wire.Sent, part)
	}
	return api.OK
}

// attempt begins an attempt. It returns an error if the attempt is locked.
func (v *visit) attempt() api.Errno {
	errno := v.gate.hands.Guard.Enter(v.conn.view.Source, v.gate.Now())
	if errno != api.OK {
		v.logError(eventLocked, errno)
	}
	return errno
}

// fail ends an attempt that has failed. The guard counts it if something was tried that may have been guessed.
func (v *visit) fail(errno api.Errno, counts bool) {
	if counts {
		v.gate.hands.Guard.Fail(v.conn.view.Source, v.gate.Now())
	}
	v.logError(eventFail, errno)
}

// enter ends an attempt that has succeeded: the user is in.
func (v *visit) enter(event string, who api.Who, gen uint64) {
	v.gate.hands.Guard.Good(v.conn.view.Source, v.gate.Now())
	v.conn.view.State = inside
	v.conn.view.Who = who
	v.conn.view.Gen = gen
	v.log(event, textOf(who))
}

// sendTicket sends the user a ticket, with which he may come back in his role.
func (v *visit) sendTicket() {
	if !v.hasRole() {
		return
	}
	text, _, errno := v.gate.hands.Tickets.Mint(v.conn.view.Who, v.conn.view.Gen, v.gate.Now())
	if errno == api.OK {
		v.send(wire.Ticket, []byte(text))
	}
}

// connect opens a tunnel to a target, if the user still may.
func (v *visit) connect(target string) api.Errno {
	host, port, ok := head.Split(target)
	if !ok {
		return api.ErrForm
	}
	who, gen := v.conn.view.Who, v.conn.view.Gen
	if !v.gate.hands.Users.Current(who.Tenant, who.User, gen) || !v.hasRole() {
		v.conn.view.State = known
		v.conn.view.Who = api.Who{}
		v.conn.view.Gen = 0
		v.logError(eventFail, api.ErrGone)
		return api.ErrGone
	}
	text := textOf(who) + space + target
	if !v.gate.hands.Policy.May(who.Role, who.Tenant, host, port) {
		v.log(eventDeny, text)
		return api.ErrDenied
	}
	v.conn.tunnel, _ = pipe.New(v.gate.room)
	v.conn.view.State = opened
	v.conn.view.Target = target
	v.log(eventOpen, text)
	return api.OK
}

// hasRole reports whether the user of the connection has the role that he is in with.
func (v *visit) hasRole() bool {
	who := v.conn.view.Who
	return v.gate.hands.Users.Has(who.Tenant, who.User, who.Role)
}

// mayResume reports whether a ticket, which is right, still lets its user in here.
func (v *visit) mayResume(t ticket.Ticket) bool {
	users := v.gate.hands.Users
	return t.Who.Tenant == v.conn.view.Tenant &&
		users.Current(t.Who.Tenant, t.Who.User, t.Gen) &&
		users.Has(t.Who.Tenant, t.Who.User, t.Who.Role)
}

// remove removes the connection.
func (v *visit) remove(event string) {
	v.gate.conns = slices.DeleteFunc(v.gate.conns, func(c *conn) bool { return c == v.conn })
	v.gone = true
	v.log(event, nothing)
}

// refuse tells the client an error.
func (v *visit) refuse(errno api.Errno) {
	v.send(wire.Error, []byte{byte(errno)})
}

// send sends the client a frame. None that the gate sends is too long for one.
func (v *visit) send(kind byte, body []byte) {
	data, _ := frame.Pack(frame.Frame{Kind: kind, Body: body})
	v.out = append(v.out, Output{Conn: v.conn.number, To: toClient, Data: data})
}

// log adds an event of the connection to the trace.
func (v *visit) log(event, text string) {
	v.gate.log(event, v.conn.number, text)
}

// logError adds an event of which an error is to be told.
func (v *visit) logError(event string, errno api.Errno) {
	v.log(event, strconv.Itoa(int(errno)))
}

// identity returns who a user is who has requested a role, or none.
func identity(user cred.Cred, role string) api.Who {
	if role == "" && len(user.Roles) > 0 {
		role = user.Roles[0]
	}
	return api.Who{Tenant: user.Tenant, User: user.User, Role: role}
}

// textOf returns the text of an event of a user. His name may have any characters, so it is in hexadecimal.
func textOf(who api.Who) string {
	role := who.Role
	if role == "" {
		role = noRole
	}
	return strings.Join([]string{who.Tenant, b64.Hex([]byte(who.User)), role}, space)
}

// isSource reports whether a text can be a source, that is, whether the guard will track it.
func isSource(source string) bool {
	_, errno := name.Name(source)
	return errno == api.OK && len(source) <= api.MaxName
}
