package order

import (
	"iter"
	"strings"
)

const (
	space  = " " // separates words
	quote  = `"` // around a word that is not bare
	escape = `\` // in front of what stands for another byte
	del    = 0x7f
)

// signs are the bytes of quoted words that others stand for, each with these.
var signs = [...]struct {
	text byte
	sign string
}{
	{'"', escape + `"`},
	{'\\', escape + `\`},
	{'\n', escape + `n`},
}

// Words iterates over the words of a line, each with true. At the first position where no valid word follows, it yields false and ends.
func Words(line string) iter.Seq2[string, bool] {
	return func(yield func(string, bool) bool) {
		rest := line
		for {
			word, after, ok := cutWord(rest)
			if !yield(word, ok) || !ok || after == "" {
				return
			}
			rest, ok = strings.CutPrefix(after, space)
			if !ok {
				yield("", false)
				return
			}
		}
	}
}

// cutWord returns the word that a text begins with, and what follows it.
func cutWord(text string) (word, after string, ok bool) {
	if inner, quoted := strings.CutPrefix(text, quote); quoted {
		return cutQuoted(inner)
	}
	size := bareSize(text)
	return text[:size], text[size:], size > 0
}

// cutQuoted returns the word behind an opening quote, and what follows its closing quote.
func cutQuoted(text string) (word, after string, ok bool) {
	var out []byte
	for {
		b, size := quotedByte(text)
		if size == 0 {
			break
		}
		out = append(out, b)
		text = text[size:]
	}
	after, ok = strings.CutPrefix(text, quote)
	if !ok {
		return "", "", false
	}
	return string(out), after, true
}

// quotedByte returns the byte of a quoted word that a text begins with, and how many bytes stand for it: 0 if the word can't go on there.
func quotedByte(text string) (byte, int) {
	for _, s := range signs {
		if strings.HasPrefix(text, s.sign) {
			return s.text, len(s.sign)
		}
	}
	if text == "" || signOf(text[0]) != text[:1] {
		return 0, 0
	}
	return text[0], 1
}

// signOf returns what stands for a byte in a quoted word, or the empty string if nothing does.
func signOf(b byte) string {
	for _, s := range signs {
		if s.text == b {
			return s.sign
		}
	}
	if b < space[0] || b == del {
		return ""
	}
	return string([]byte{b})
}

// bareSize returns how many bytes at the beginning of a text may stand in a bare word.
func bareSize(text string) int {
	for i := range len(text) {
		b := text[i]
		if b <= space[0] || b >= del || b == quote[0] || b == escape[0] {
			return i
		}
	}
	return len(text)
}

// canonical returns the canonical form of a word, or false if it can't be written.
func canonical(word string) (string, bool) {
	if word != "" && bareSize(word) == len(word) {
		return word, true
	}
	out := []byte(quote)
	for i := range len(word) {
		sign := signOf(word[i])
		if sign == "" {
			return "", false
		}
		out = append(out, sign...)
	}
	return string(append(out, quote...)), true
}
