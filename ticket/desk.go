package ticket

import (
	"cmp"
	"iter"
	"slices"

	"ostiary/api"
	"ostiary/ring"
	"ostiary/span"
)

const (
	signedAs = "ticket " // what is signed ahead of the body
	anyEpoch = 1         // an epoch that a body can have
)

// Desk issues tickets, and opens them. It uses the ring in its state at that time.
type Desk struct {
	ring    *ring.Ring
	life    uint64
	serial  uint64   // the number of tickets issued
	records []record // in increasing order of their serial numbers
}

// record is what the desk remembers of a ticket until it is swept.
type record struct {
	serial  uint64
	to      uint64
	revoked bool
}

// NewDesk returns a desk that issues tickets valid for life ticks.
func NewDesk(r *ring.Ring, life uint64) (*Desk, api.Errno) {
	if r == nil {
		return nil, api.ErrNone
	}
	if !within(life, api.MaxTick) {
		return nil, api.ErrArg
	}
	return &Desk{ring: r, life: life}, api.OK
}

// Mint issues a ticket and returns its text and the ticket.
func (d *Desk) Mint(who api.Who, gen, now uint64) (string, Ticket, api.Errno) {
	if d == nil {
		return "", Ticket{}, api.ErrNone
	}
	epoch, _, there := d.ring.Newest()
	if !there {
		epoch = anyEpoch // so that Body checks the rest, which takes precedence over the missing key
	}
	t := Ticket{Epoch: epoch, Serial: d.serial + 1, From: now, To: span.Add(now, d.life), Gen: gen, Who: who}
	body, errno := t.Body()
	if errno != api.OK {
		return "", Ticket{}, errno
	}
	_, sum, errno := d.ring.Sign([]byte(signedAs), body)
	if errno != api.OK {
		return "", Ticket{}, errno
	}
	d.serial = t.Serial
	d.records = append(d.records, record{serial: t.Serial, to: t.To})
	return textOf(body, sum), t, api.OK
}

// Open returns the ticket of a text.
func (d *Desk) Open(text string, now uint64) (Ticket, api.Errno) {
	if d == nil {
		return Ticket{}, api.ErrNone
	}
	body, sum, errno := Split(text)
	if errno != api.OK {
		return Ticket{}, errno
	}
	t, errno := Read(body)
	if errno != api.OK {
		return Ticket{}, errno
	}
	errno = d.ring.Verify(t.Epoch, sum, []byte(signedAs), body)
	if errno != api.OK {
		return Ticket{}, errno
	}
	if now < t.From || now >= t.To {
		return Ticket{}, api.ErrLate
	}
	i, there := d.find(t.Serial)
	if there && d.records[i].revoked {
		return Ticket{}, api.ErrGone
	}
	return t, api.OK
}

// Revoke revokes a ticket.
func (d *Desk) Revoke(serial uint64) api.Errno {
	if d == nil {
		return api.ErrNone
	}
	i, there := d.find(serial)
	if !there {
		return api.ErrNone
	}
	if d.records[i].revoked {
		return api.ErrSeen
	}
	d.records[i].revoked = true
	return api.OK
}

// Sweep removes the records of the tickets that have expired and returns how many of them were revoked.
func (d *Desk) Sweep(now uint64) int {
	if d == nil {
		return 0
	}
	revoked := 0
	d.records = slices.DeleteFunc(d.records, func(r record) bool {
		expired := now >= r.to
		if expired && r.revoked {
			revoked++
		}
		return expired
	})
	return revoked
}

// Serial returns the number of tickets issued.
func (d *Desk) Serial() uint64 {
	if d == nil {
		return 0
	}
	return d.serial
}

// Revoked iterates over the serial numbers of the revoked tickets in increasing order, as they are when the iteration begins.
func (d *Desk) Revoked() iter.Seq[uint64] {
	return func(yield func(uint64) bool) {
		if d == nil {
			return
		}
		for _, r := range slices.Clone(d.records) {
			if r.revoked && !yield(r.serial) {
				return
			}
		}
	}
}

// find returns where the record of a ticket is, if it is there.
func (d *Desk) find(serial uint64) (int, bool) {
	return slices.BinarySearchFunc(d.records, serial, func(r record, serial uint64) int {
		return cmp.Compare(r.serial, serial)
	})
}
