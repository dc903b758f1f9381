package scram

import (
	"strings"

	"ostiary/api"
	"ostiary/b64"
	"ostiary/decimal"
	"ostiary/name"
)

// reader takes the attributes of a message one after the other. It goes on after a fault, because what is not of the form takes precedence over what is not supported, wherever they are.
type reader struct {
	rest   []api.Pair
	bad    bool // whether something is not of the form
	denied bool // whether something is not supported
}

func readFirst(r *reader, text string) First {
	m := First{}
	bare := ""
	m.Flag, m.Authz, bare = r.head(text)
	r.open(bare)
	r.mandatory()
	m.User = r.unescape(r.take(userLetter))
	m.Nonce = r.nonce()
	m.Ext = r.extensions(noLetter)
	return m
}

func readChallenge(r *reader, text string) Challenge {
	r.open(text)
	m := Challenge{}
	m.Nonce = r.nonce()
	m.Salt = r.bytes(saltLetter, 1, api.MaxSalt)
	m.Iter = r.rounds()
	m.Ext = r.extensions(noLetter)
	return m
}

func readFinal(r *reader, text string) Final {
	r.open(text)
	m := Final{}
	m.Head = string(r.bytes(headLetter, 0, len(text)))
	_, _, rest := r.head(m.Head)
	r.expect(rest == "")
	m.Nonce = r.nonce()
	m.Ext = r.extensions(proofLetter)
	m.Proof = r.bytes(proofLetter, tagSize, tagSize)
	return m
}

func readVerdict(r *reader, text string) Verdict {
	r.open(text)
	m := Verdict{}
	if r.sees(sumLetter) {
		m.Sum = r.bytes(sumLetter, tagSize, tagSize)
	} else {
		m.Code = r.value(r.take(codeLetter))
	}
	m.Ext = r.extensions(noLetter)
	return m
}

// open begins with the attributes of a text. There is one more of them than there are commas, or else the iterator has stopped at a piece that isn't one.
func (r *reader) open(text string) {
	for letter, value := range Attributes(text) {
		r.rest = append(r.rest, api.Pair{Name: letter, Value: value})
	}
	r.expect(len(r.rest) == strings.Count(text, comma)+1)
}

// errno tells what is wrong with the whole message.
func (r *reader) errno() api.Errno {
	switch {
	case r.bad || len(r.rest) > 0:
		return api.ErrForm
	case r.denied:
		return api.ErrDenied
	}
	return api.OK
}

func (r *reader) expect(holds bool) {
	r.bad = r.bad || !holds
}

// sees reports whether the next attribute has that letter.
func (r *reader) sees(letter string) bool {
	return len(r.rest) > 0 && r.rest[0].Name == letter
}

// take returns the value of the next attribute, which must have that letter.
func (r *reader) take(letter string) string {
	if !r.sees(letter) {
		r.bad = true
		return ""
	}
	value := r.rest[0].Value
	r.rest = r.rest[1:]
	return value
}

// head reads a head, which is not in the form of attributes, and returns its flag, its name, and what follows it.
func (r *reader) head(text string) (flag, authz, rest string) {
	flag, text, _ = strings.Cut(text, comma)
	authz, rest, complete := strings.Cut(text, comma)
	r.expect(complete)
	binding, bound := strings.CutPrefix(flag, flagBinding)
	if bound {
		r.denied = true
		r.expect(binding != "" && consists(binding, letters+digits+".-"))
	} else {
		r.expect(flag == flagWithout || flag == flagAble)
	}
	if authz != "" {
		escaped, named := strings.CutPrefix(authz, attribute(authzLetter, ""))
		r.expect(named)
		authz = r.unescape(escaped)
	}
	return flag, authz, rest
}

// mandatory takes the mandatory extension at the beginning of a bare part, if there is one.
func (r *reader) mandatory() {
	if r.sees(mandatoryLetter) {
		r.denied = true
		r.value(r.take(mandatoryLetter))
	}
}

// value returns s, which must be a value. It has no comma, because the message was split there.
func (r *reader) value(s string) string {
	r.expect(s != "" && name.Valid(s) && !strings.Contains(s, zero))
	return s
}

// unescape returns the name that s escapes.
func (r *reader) unescape(s string) string {
	plain, errno := name.Unescape(r.value(s))
	r.expect(errno == api.OK)
	return plain
}

func (r *reader) nonce() string {
	s := r.take(nonceLetter)
	r.expect(Nonce(s))
	return s
}

func (r *reader) rounds() int {
	n, ok := decimal.Parse(r.take(iterLetter), 1, api.MaxIter)
	r.expect(ok)
	return n
}

// bytes takes an attribute whose value encodes least to most bytes.
func (r *reader) bytes(letter string, least, most int) []byte {
	p, errno := b64.Decode(r.take(letter))
	r.expect(errno == api.OK && least <= len(p) && len(p) <= most)
	return p
}

// extensions takes all attributes up to the first one with the letter end.
func (r *reader) extensions(end string) []api.Pair {
	var list []api.Pair
collect:
	for _, x := range r.rest {
		switch x.Name {
		case end:
			break collect
		case mandatoryLetter:
			r.denied = true
		}
		r.expect(strings.Contains(letters, x.Name))
		r.value(x.Value)
		list = append(list, x)
	}
	r.rest = r.rest[len(list):]
	return list
}

// consists reports whether all characters of s are among the signs.
func consists(s, signs string) bool {
	return strings.Trim(s, signs) == ""
}
