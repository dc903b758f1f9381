package digest

import (
	"strings"

	"ostiary/api"
	"ostiary/b64"
)

const (
	quote  = '"'
	escape = '\\'
	blanks = " \t"
)

func quoted(name, value string) Param {
	return Param{Name: name, Value: value, Quoted: true}
}

func plain(name, value string) Param {
	return Param{Name: name, Value: value}
}

// encode writes the value.
func (p Param) encode() (string, bool) {
	if p.Quoted {
		return Quote(p.Value)
	}
	return p.Value, Token(p.Value)
}

// isName reports whether s is a token in lower case.
func isName(s string) bool {
	return Token(s) && strings.ToLower(s) == s
}

// isQuotable reports whether b may stand in a quoted string, either itself or behind an escape.
func isQuotable(b byte) bool {
	return b == '\t' || b >= ' ' && b != 0x7f
}

// listOf returns the parameter list of a header. One that doesn't begin as a header has an empty list, which is not valid either. Only a token is converted to lower case, because other letters may become those of the scheme.
func listOf(header string) string {
	word, rest, _ := strings.Cut(header, " ")
	if !Token(word) || strings.ToLower(word) != strings.ToLower(scheme) {
		return ""
	}
	return strings.TrimLeft(rest, " ")
}

// cutParam takes the parameter at the beginning of s, and returns what is behind it.
func cutParam(s string) (p Param, behind string, ok bool) {
	name, rest := cutToken(s)
	rest, ok = strings.CutPrefix(strings.TrimLeft(rest, blanks), "=")
	if name == "" || !ok {
		return Param{}, "", false
	}
	p.Name = strings.ToLower(name)
	rest = strings.TrimLeft(rest, blanks)
	p.Value, behind = cutToken(rest)
	if p.Value == "" {
		p.Quoted = true
		p.Value, behind, ok = cutQuoted(rest)
	}
	return p, behind, ok
}

// afterComma returns what is behind the comma with which s begins, and behind the space on both sides of it. If there is no comma, nothing is left, where no parameter follows either.
func afterComma(s string) string {
	rest, ok := strings.CutPrefix(strings.TrimLeft(s, blanks), ",")
	if !ok {
		return ""
	}
	return strings.TrimLeft(rest, blanks)
}

// cutToken takes as much of a token as s begins with.
func cutToken(s string) (token, behind string) {
	behind = strings.TrimLeft(s, tokenSigns)
	return s[:len(s)-len(behind)], behind
}

// cutQuoted takes the quoted string at the beginning of s, and returns what it stands for.
func cutQuoted(s string) (value, behind string, ok bool) {
	if s == "" || s[0] != quote {
		return "", "", false
	}
	var out []byte
	escaped := false
scan:
	for at := 1; at < len(s); at++ {
		b := s[at]
		switch {
		case !isQuotable(b):
			break scan
		case escaped:
			escaped = false
		case b == quote:
			return string(out), s[at+1:], true
		case b == escape:
			escaped = true
			continue scan
		}
		out = append(out, b)
	}
	return "", "", false
}

// repeats reports whether a name occurs twice.
func repeats(list []Param) bool {
	for i, p := range list {
		_, again := find(list[:i], p.Name)
		if again {
			return true
		}
	}
	return false
}

// find returns the parameter with that name.
func find(list []Param, name string) (Param, bool) {
	for _, p := range list {
		if p.Name == name {
			return p, true
		}
	}
	return Param{}, false
}

// valueOf returns the value of the parameter with that name; "" if there is none.
func valueOf(list []Param, name string) string {
	p, _ := find(list, name)
	return p.Value
}

// read returns the parameters of a header if all that are required are there and each one fits.
func read(header string, fits func(Param) bool, required ...string) ([]Param, api.Errno) {
	list, errno := Parse(header)
	if errno != api.OK {
		return nil, errno
	}
	for _, name := range required {
		_, ok := find(list, name)
		if !ok {
			return nil, api.ErrNone
		}
	}
	if !all(list, fits) {
		return nil, api.ErrForm
	}
	return list, api.OK
}

// write returns the header with these parameters if each one fits.
func write(list []Param, fits func(Param) bool) (string, api.Errno) {
	if !all(list, fits) {
		return "", api.ErrForm
	}
	return Print(list)
}

func all(list []Param, fits func(Param) bool) bool {
	for _, p := range list {
		if !fits(p) {
			return false
		}
	}
	return true
}

// fitsChallenge reports whether a parameter has the form that it must have in a challenge. Those that are ignored have any.
func fitsChallenge(p Param) bool {
	switch p.Name {
	case "realm", "opaque":
		return p.Quoted
	case "nonce":
		return p.Quoted && isNonce(p.Value)
	case "qop":
		return p.Quoted && p.Value == quality
	case "algorithm":
		return isAlgorithm(p)
	case "stale":
		return !p.Quoted && (p.Value == stale || p.Value == fresh)
	}
	return true
}

// fitsAnswer reports whether a parameter has the form that it must have in an answer. Those that are ignored have any.
func fitsAnswer(p Param) bool {
	switch p.Name {
	case "username", "realm", "uri", "opaque":
		return p.Quoted
	case "nonce", "cnonce":
		return p.Quoted && isNonce(p.Value)
	case "qop":
		return !p.Quoted && p.Value == quality
	case "nc":
		return !p.Quoted && isHex(p.Value, countSize)
	case "response":
		return p.Quoted && isHex(p.Value, proofSize)
	case "algorithm":
		return isAlgorithm(p)
	}
	return true
}

// isAlgorithm looks at a token only, in which the library's folding knows no more letters than those of the document.
func isAlgorithm(p Param) bool {
	return !p.Quoted && strings.EqualFold(p.Value, algorithm)
}

func isNonce(s string) bool {
	return s != "" && len(s) <= api.MaxNonce
}

// isHex reports whether s encodes size bytes.
func isHex(s string, size int) bool {
	p, errno := b64.Unhex(s)
	return errno == api.OK && len(p) == size
}
