// Package wire names what the proxy and its clients must agree on. It is no layer; layers share it.
package wire

// The kinds of frames: those that a client sends, then those that it is sent.
const (
	Hello = 1 + iota
	First
	Final
	Ask
	Show
	Open
	Data
	Close
	Say
	Answer
	Ticket
	Opened
	Sent // the bytes of the upstream server
	Closed
	Error
)

// Connect is the method of a request for a tunnel.
const Connect = "CONNECT"

// The fields of requests and answers.
const (
	AnswerField = "Proxy-Authorization"
	AskField    = "Proxy-Authenticate"
	RoleField   = "X-Role"
)

// The statuses of answers.
const (
	StatusOK           = 200
	StatusBadRequest   = 400
	StatusForbidden    = 403
	StatusAuthenticate = 407
	StatusTooMany      = 429
	StatusUnavailable  = 503
)
