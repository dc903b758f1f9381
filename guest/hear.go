package guest

import (
	"strings"

	"ostiary/api"
	"ostiary/digest"
	"ostiary/frame"
	"ostiary/head"
	"ostiary/proof"
	"ostiary/scram"
	"ostiary/wire"
)

const (
	proofSize  = 32 // bytes of a proof
	firstCount = 1  // of the answers to a challenge
)

// Hear processes a frame from the gate and returns the guest's reply.
func (g *Guest) Hear(p []byte) ([]byte, api.Errno) {
	if g == nil {
		return nil, api.ErrNone
	}
	f, size, errno := frame.Unpack(p)
	if errno != api.OK || size != len(p) {
		return nil, api.ErrForm
	}
	if g.state == Gone {
		return nil, api.OK
	}
	return g.process(f), api.OK
}

// process processes a frame. One that doesn't belong to the state has no effect.
func (g *Guest) process(f frame.Frame) []byte {
	switch {
	case f.Kind == wire.Say && g.state == Asking:
		return g.orBad(g.prove(string(f.Body)))
	case f.Kind == wire.Say && g.state == Proving:
		g.hearVerdict(string(f.Body))
	case f.Kind == wire.Answer && g.state == Waiting:
		return g.orBad(g.hearAnswer(f.Body))
	case f.Kind == wire.Ticket:
		g.ticket = string(f.Body)
	case f.Kind == wire.Opened && g.state == In:
		g.state = Open
	case f.Kind == wire.Sent && g.state == Open:
		g.got = append(g.got, f.Body...)
	case f.Kind == wire.Closed:
		g.state = Gone
	case f.Kind == wire.Error && len(f.Body) == 1:
		g.hearError(api.Errno(f.Body[0]))
	}
	return nil
}

// orBad returns a reply. If the guest can't reply, something was refused.
func (g *Guest) orBad(reply []byte, errno api.Errno) []byte {
	if errno != api.OK {
		g.state = Bad
		return nil
	}
	return reply
}

// prove replies to a challenge by the client final. A challenge that doesn't continue the guest's nonce is one for somebody else, or one of before.
func (g *Guest) prove(challenge string) ([]byte, api.Errno) {
	c, errno := scram.ParseChallenge(challenge)
	if errno != api.OK || !strings.HasPrefix(c.Nonce, g.first.Nonce) || c.Nonce == g.first.Nonce {
		return nil, api.ErrForm
	}
	// No error is possible here, since the client first was sent, and the challenge and the password are valid; only the frame may be too long.
	bare, _ := g.first.Bare()
	final := scram.Final{Head: g.first.Head(), Nonce: c.Nonce, Proof: make([]byte, proofSize)} // which has the right size, but proves nothing yet
	without, _ := final.Without()
	message := proof.Message(bare, challenge, without)
	final.Proof, g.verdict, _ = proof.Client(g.box, g.pass, c.Salt, c.Iter, message)
	text, _ := final.Text()
	return g.send(wire.Final, []byte(text), Proving)
}

// hearVerdict takes the verdict, which only somebody can give who has the secret of the password.
func (g *Guest) hearVerdict(text string) {
	v, errno := scram.ParseVerdict(text)
	if errno != api.OK || !proof.Equal(v.Sum, g.verdict) {
		g.state = Bad
		return
	}
	g.state = In
}

// hearAnswer takes the answer to the request. It must be a head and nothing behind it.
func (g *Guest) hearAnswer(body []byte) ([]byte, api.Errno) {
	a, size, errno := head.ParseAnswer(body)
	if errno != api.OK || size != len(body) {
		return nil, api.ErrForm
	}
	switch a.Status {
	case wire.StatusOK:
		g.state = Open
		return nil, api.OK
	case wire.StatusAuthenticate:
		return g.answer(a.Fields)
	}
	return nil, api.ErrDenied
}

// answer sends the request again, with an answer to the challenge in these fields. A challenge after an answer says that the answer was wrong, unless it is stale: then only the nonce was too old.
func (g *Guest) answer(fields []api.Pair) ([]byte, api.Errno) {
	header, _ := head.First(fields, wire.AskField) // an empty one is no challenge either
	c, errno := digest.ParseChallenge(header)
	if errno != api.OK {
		return nil, errno
	}
	if c.Realm != g.who.Tenant || g.answered && !c.Stale {
		return nil, api.ErrDenied
	}
	a := digest.Answer{User: g.who.User, Realm: c.Realm, Nonce: c.Nonce, URI: g.target, Cnonce: g.cnonce, Opaque: c.Opaque, NC: firstCount}
	a.Proof = proof.Response(g.box, proof.HA1(g.box, g.user, c.Realm, g.pass), wire.Connect, a)
	text, errno := a.Text()
	if errno != api.OK {
		return nil, errno
	}
	g.answered = true
	again := []api.Pair{{Name: wire.AnswerField, Value: text}}
	if g.who.Role != "" {
		again = append(again, api.Pair{Name: wire.RoleField, Value: g.who.Role})
	}
	return g.sendRequest(again...)
}

// hearError takes an error. What was refused after the guest was let in doesn't put it out again.
func (g *Guest) hearError(errno api.Errno) {
	g.fault = errno
	if g.state != In && g.state != Open {
		g.state = Bad
	}
}
