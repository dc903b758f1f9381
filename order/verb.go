package order

import (
	"slices"
	"strconv"
	"strings"

	"ostiary/api"
	"ostiary/b64"
	"ostiary/cred"
	"ostiary/decimal"
	"ostiary/rule"
)

const (
	replyOK = "ok" // of every command that has no other reply
	onWord  = "on"
	offWord = "off"
	noRoles = "-"
	comma   = "," // between roles
)

const (
	mostNumber = 1 << 53
	mostRounds = 1 << 20 // what greater numbers of rounds count as
)

// verb is the name of a verb, the number of its arguments, and what does its work.
type verb struct {
	name string
	args int
	run  handler
}

// handler does the work of a verb: it takes as many arguments as the verb has, and the time, and returns the reply.
type handler func(args []string, now uint64) (string, api.Errno)

// verbs returns all verbs in increasing order.
func (h *Hands) verbs() []verb {
	return []verb{
		{"count", 0, h.count},
		{"grant", 3, three(h.Users.Grant)},
		{"key-retire", 1, number(h.Ring.Retire)},
		{"key-rotate", 0, h.rotate},
		{"policy", 1, h.setPolicy},
		{"restore", 2, h.restore},
		{"revoke", 2, h.revoke},
		{"show-keys", 0, h.showKeys},
		{"show-policy", 0, h.showPolicy},
		{"show-user", 2, h.showUser},
		{"source-clear", 1, one(h.Guard.Clear)},
		{"sweep", 0, h.sweep},
		{"tenant-add", 1, one(h.Users.AddTenant)},
		{"tenant-drop", 1, one(h.Users.DropTenant)},
		{"ticket-revoke", 1, number(h.Tickets.Revoke)},
		{"ungrant", 3, three(h.Users.Ungrant)},
		{"user-add", 5, h.secret(h.Users.Add)},
		{"user-drop", 2, two(h.Users.Drop)},
		{"user-pass", 5, h.secret(h.Users.Change)},
	}
}

// verb finds a verb by its name.
func (h *Hands) verb(name string) (verb, bool) {
	for _, v := range h.verbs() {
		if v.name == name {
			return v, true
		}
	}
	return verb{}, false
}

// one makes a handler of a call that takes one text.
func one(call func(string) api.Errno) handler {
	return func(args []string, _ uint64) (string, api.Errno) {
		return done(call(args[0]))
	}
}

// two makes a handler of a call that takes two texts.
func two(call func(string, string) api.Errno) handler {
	return func(args []string, _ uint64) (string, api.Errno) {
		return done(call(args[0], args[1]))
	}
}

// three makes a handler of a call that takes three texts.
func three(call func(string, string, string) api.Errno) handler {
	return func(args []string, _ uint64) (string, api.Errno) {
		return done(call(args[0], args[1], args[2]))
	}
}

// number makes a handler of a call that takes a number.
func number(call func(uint64) api.Errno) handler {
	return func(args []string, _ uint64) (string, api.Errno) {
		n, ok := decimal.Parse(args[0], 0, mostNumber)
		if !ok {
			return "", api.ErrForm
		}
		return done(call(uint64(n)))
	}
}

// secret makes a handler of a call that takes a user and the secret of a password. What is written wrongly is found before the secret is made, since that takes steps of the box.
func (h *Hands) secret(call func(tenant, user string, x cred.Secret) api.Errno) handler {
	return func(args []string, _ uint64) (string, api.Errno) {
		tenant, user, pass := args[0], args[1], args[2]
		salt, errno := b64.Unhex(args[3])
		rounds, ok := decimal.Parse(args[4], 0, mostNumber)
		if errno != api.OK || !ok {
			return "", api.ErrForm
		}
		x, errno := cred.Make(h.Box, tenant, user, pass, salt, min(rounds, mostRounds))
		if errno != api.OK {
			return "", errno
		}
		return done(call(tenant, user, x))
	}
}

func (h *Hands) revoke(args []string, _ uint64) (string, api.Errno) {
	return done(h.Users.Revoke(args[0], args[1], true))
}

func (h *Hands) restore(args []string, _ uint64) (string, api.Errno) {
	return done(h.Users.Revoke(args[0], args[1], false))
}

func (h *Hands) setPolicy(args []string, _ uint64) (string, api.Errno) {
	p, _, errno := rule.Parse(args[0])
	if errno == api.OK {
		h.Policy = p
	}
	return done(errno)
}

func (h *Hands) rotate(_ []string, _ uint64) (string, api.Errno) {
	epoch, errno := h.Ring.Rotate()
	if errno != api.OK {
		return "", errno
	}
	return decimals(epoch), api.OK
}

func (h *Hands) sweep(_ []string, now uint64) (string, api.Errno) {
	return decimals(h.Nonces.Sweep(now), h.Guard.Sweep(now), h.Tickets.Sweep(now)), api.OK
}

func (h *Hands) showUser(args []string, _ uint64) (string, api.Errno) {
	c, found := h.Users.Find(args[0], args[1])
	if !found {
		return "", api.ErrNone
	}
	state, roles := onWord, noRoles
	if c.Revoked {
		state = offWord
	}
	if len(c.Roles) > 0 {
		roles = strings.Join(c.Roles, comma)
	}
	return strings.Join([]string{decimals(c.Gen), state, roles}, space), api.OK
}

func (h *Hands) showPolicy(_ []string, _ uint64) (string, api.Errno) {
	return h.Policy.Text(), api.OK
}

func (h *Hands) showKeys(_ []string, _ uint64) (string, api.Errno) {
	return decimals(slices.Collect(h.Ring.Epochs())...), api.OK
}

// count counts the users as they are listed, because a search would count as a read.
func (h *Hands) count(_ []string, _ uint64) (string, api.Errno) {
	tenants, users := 0, 0
	for tenant := range h.Users.Tenants() {
		tenants++
		for range h.Users.Users(tenant) {
			users++
		}
	}
	return decimals(tenants, users, h.Nonces.Len(), h.Guard.Len(), int(h.Tickets.Serial())), api.OK
}

// done returns the reply of a call that has none of its own.
func done(errno api.Errno) (string, api.Errno) {
	if errno != api.OK {
		return "", errno
	}
	return replyOK, api.OK
}

// decimals writes numbers, separated by one space.
func decimals[N int | uint64](numbers ...N) string {
	words := make([]string, len(numbers))
	for i, n := range numbers {
		words[i] = strconv.FormatUint(uint64(n), 10)
	}
	return strings.Join(words, space)
}
