package gate

import (
	"ostiary/api"
	"ostiary/head"
	"ostiary/quest"
)

const (
	connectMethod = "CONNECT"
	answerField   = "Proxy-Authorization"
	askField      = "Proxy-Authenticate"
	roleField     = "X-Role"
)

// The statuses of answers.
const (
	statusOK           = 200
	statusBadRequest   = 400
	statusForbidden    = 403
	statusAuthenticate = 407
	statusTooMany      = 429
	statusUnavailable  = 503
)

// ask takes a request. Every answer to it is a head, so that it returns no error.
func (v *visit) ask(body []byte) api.Errno {
	request, ok := readConnect(body)
	if !ok {
		v.answer(statusBadRequest)
		return api.OK
	}
	header, ok := head.First(request.Fields, answerField)
	switch {
	case !ok:
		v.challenge(false)
	case v.attempt() != api.OK:
		v.answer(statusTooMany)
	default:
		v.check(request, header)
	}
	return api.OK
}

// check takes a request whose header answers a challenge.
func (v *visit) check(request head.Request, header string) {
	q, _ := quest.New(v.gate.office(), v.conn.view.Tenant) // nil if the hands lack something, which it says itself
	result, errno := q.Answer(quest.Ask{Method: request.Method, Target: request.Target, Header: header}, v.gate.Now())
	v.gate.checks += q.Checks()
	if errno != api.OK {
		checked := q.Checks() > 0
		stale := checked && quest.Stale(errno)
		v.fail(errno, checked && !stale)
		v.challenge(stale)
		return
	}
	role, _ := head.First(request.Fields, roleField)
	v.enter(eventEnter, identity(result.User, role), result.User.Gen)
	if v.connect(request.Target) != api.OK {
		v.answer(statusForbidden)
		return
	}
	v.answer(statusOK)
}

// challenge asks the client to authenticate.
func (v *visit) challenge(stale bool) {
	draw, ok := v.gate.takeDraw()
	if !ok {
		v.answer(statusUnavailable)
		return
	}
	q, _ := quest.New(v.gate.office(), v.conn.view.Tenant)
	header, errno := q.Challenge(draw, stale, v.gate.Now())
	if errno != api.OK {
		v.answer(statusUnavailable)
		return
	}
	v.answer(statusAuthenticate, api.Pair{Name: askField, Value: header})
}

// answer sends the client a head.
func (v *visit) answer(status int, fields ...api.Pair) {
	data, _ := head.Answer{Status: status, Reason: reasonOf(status), Fields: fields}.Bytes()
	v.send(frameAnswer, data)
}

// readConnect returns the request that a body is, if it asks for a tunnel.
func readConnect(body []byte) (head.Request, bool) {
	request, size, errno := head.ParseRequest(body)
	_, _, isTarget := head.Split(request.Target)
	ok := errno == api.OK && size == len(body) && request.Method == connectMethod && isTarget
	return request, ok
}

// reasonOf returns the reason that stands beside a status.
func reasonOf(status int) string {
	switch status {
	case statusOK:
		return "OK"
	case statusBadRequest:
		return "Bad Request"
	case statusForbidden:
		return "Forbidden"
	case statusAuthenticate:
		return "Proxy Authentication Required"
	case statusTooMany:
		return "Too Many Requests"
	}
	return "Service Unavailable"
}
