package knows

import (
	"iter"
	"slices"
	"strings"

	"ostiary/b64"
	"ostiary/box"
)

const (
	handleSize = 32
	signs      = "ABCDEFGHIJKLMNOPQRSTUVWXYZabcdefghijklmnopqrstuvwxyz0123456789+/-_" // of both variants of Base64
	filler     = "="
	groupSize  = 4 // characters that Base64 is a multiple of
)

// Found returns the numbers of all handles in a text in increasing order, each once: of those that occur literally, and of those in decodings.
func Found(text []byte) []int {
	numbers := literal(text)
	for run := range Runs(text) {
		for _, p := range decodings(run) {
			numbers = append(numbers, literal(p)...)
		}
	}
	return sorted(numbers)
}

// Runs iterates over the maximal runs of Base64 characters.
func Runs(text []byte) iter.Seq[string] {
	return strings.FieldsFuncSeq(string(text), isForeign)
}

// isForeign reports whether a code point is no Base64 character. No part of the encoding of a longer one is such a character.
func isForeign(r rune) bool {
	return !strings.ContainsRune(signs, r)
}

// decodings returns what a run can be the encoding of. One that is not valid decodes to nothing.
func decodings(run string) [][]byte {
	missing := (groupSize - len(run)%groupSize) % groupSize
	standard, _ := b64.Decode(run + strings.Repeat(filler, missing))
	forURLs, _ := b64.DecodeURL(run)
	hex, _ := b64.Unhex(run)
	return [][]byte{standard, forURLs, hex}
}

// literal returns the numbers of the handles that occur literally.
func literal(text []byte) []int {
	var numbers []int
	for _, n := range box.Handles(text) {
		numbers = append(numbers, n)
	}
	return numbers
}

// sorted returns numbers in increasing order, each once.
func sorted(numbers []int) []int {
	slices.Sort(numbers)
	return slices.Compact(numbers)
}
