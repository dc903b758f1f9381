package gate

import (
	"ostiary/api"
	"ostiary/head"
	"ostiary/quest"
	"ostiary/wire"
)

// ask takes a request. Every answer to it is a head, so that it returns no error.
func (v *visit) ask(body []byte) api.Errno {
	request, ok := readConnect(body)
	if !ok {
		v.answer(wire.StatusBadRequest)
		return api.OK
	}
	header, ok := head.First(request.Fields, wire.AnswerField)
	switch {
	case !ok:
		v.challenge(false)
	case v.attempt() != api.OK:
		v.answer(wire.StatusTooMany)
	default:
		v.check(request, header)
	}
	return api.OK
}

// check takes a request whose header answers a challenge.
func (v *visit) check(request head.Request, header string) {
	q, _ := quest.New(v.gate.office(), v.conn.view.Tenant) // nil if the hands lack something, which it says itself
	result, errno := q.Answer(quest.Ask{Method: request.Method, Target: request.Target, Header: header}, v.gate.Now())
	v.gate.checks += q.Checks()
	if errno != api.OK {
		checked := q.Checks() > 0
		stale := checked && quest.Stale(errno)
		v.fail(errno, checked && !stale)
		v.challenge(stale)
		return
	}
	role, _ := head.First(request.Fields, wire.RoleField)
	v.enter(eventEnter, identity(result.User, role), result.User.Gen)
	if v.connect(request.Target) != api.OK {
		v.answer(wire.StatusForbidden)
		return
	}
	v.answer(wire.StatusOK)
}

// challenge asks the client to authenticate.
func (v *visit) challenge(stale bool) {
	draw, ok := v.gate.takeDraw()
	if !ok {
		v.answer(wire.StatusUnavailable)
		return
	}
	q, _ := quest.New(v.gate.office(), v.conn.view.Tenant)
	header, errno := q.Challenge(draw, stale, v.gate.Now())
	if errno != api.OK {
		v.answer(wire.StatusUnavailable)
		return
	}
	v.answer(wire.StatusAuthenticate, api.Pair{Name: wire.AskField, Value: header})
}

// answer sends the client a head.
func (v *visit) answer(status int, fields ...api.Pair) {
	data, _ := head.Answer{Status: status, Reason: reasonOf(status), Fields: fields}.Bytes()
	v.send(wire.Answer, data)
}

// readConnect returns the request that a body is, if it asks for a tunnel.
func readConnect(body []byte) (head.Request, bool) {
	request, size, errno := head.ParseRequest(body)
	_, _, isTarget := head.Split(request.Target)
	ok := errno == api.OK && size == len(body) && request.Method == wire.Connect && isTarget
	return request, ok
}

// reasonOf returns the reason that stands beside a status.
func reasonOf(status int) string {
	switch status {
	case wire.StatusOK:
		return "OK"
	case wire.StatusBadRequest:
		return "Bad Request"
	case wire.StatusForbidden:
		return "Forbidden"
	case wire.StatusAuthenticate:
		return "Proxy Authentication Required"
	case wire.StatusTooMany:
		return "Too Many Requests"
	}
	return "Service Unavailable"
}
