package world

import (
	"slices"

	"ostiary/api"
	"ostiary/gate"
	"ostiary/guest"
)

// toUpstream is where an output of the gate goes to that is not for the client.
const toUpstream = 1

// seat is a guest and what belongs to it.
type seat struct {
	*guest.Guest
	world    *World
	conn     int
	queue    [][]byte // frames from the gate that the guest has not heard yet
	upstream []byte   // what the upstream server has received
}

// say sends what a call of the guest returned, if it has anything to send. It has nothing if there is an error, which is handed on.
func (s *seat) say(p []byte, errno api.Errno) api.Errno {
	if len(p) > 0 {
		s.world.said = append(s.world.said, piece{conn: s.conn, data: slices.Clone(p)})
		s.step(gate.Input{Kind: gate.Bytes, Data: p})
	}
	return errno
}

// step passes an input for the connection to the gate, and what goes out to the guest and the upstream server.
func (s *seat) step(in gate.Input) api.Errno {
	in.Conn = s.conn
	result := s.world.gate.Step(in)
	for _, o := range result.Out {
		if o.To == toUpstream {
			s.upstream = append(s.upstream, o.Data...)
			continue
		}
		s.world.heard = append(s.world.heard, piece{conn: s.conn, data: o.Data})
		s.queue = append(s.queue, slices.Clone(o.Data)) // which may be changed there
	}
	return result.Code
}

// next removes the first frame of the queue.
func (s *seat) next() ([]byte, bool) {
	if len(s.queue) == 0 {
		return nil, false
	}
	p := s.queue[0]
	s.queue = s.queue[1:]
	return p, true
}

// hear lets the guest hear the first frame of its queue, and sends its reply. The reply may need a draw.
func (s *seat) hear(withDraw bool) api.Errno {
	p, ok := s.next()
	if !ok {
		return api.ErrNone
	}
	if withDraw {
		s.world.draw()
	}
	return s.say(s.Hear(p))
}

// lose removes a frame that the guest never hears.
func (s *seat) lose() api.Errno {
	_, ok := s.next()
	if !ok {
		return api.ErrNone
	}
	return api.OK
}

// turn spoils a byte of the frame that the guest will hear next.
func (s *seat) turn(n uint64) api.Errno {
	if len(s.queue) == 0 {
		return api.ErrNone
	}
	p := s.queue[0]
	p[n%uint64(len(p))] ^= 1
	return api.OK
}
