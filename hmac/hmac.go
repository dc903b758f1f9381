// Package hmac is layer 2: HMAC, PBKDF2 and HKDF with SHA-256 (RFC 2104, 8018, 5869).
package hmac

import (
	"iter"

	"ostiary/api"
	"ostiary/sha"
)

const (
	innerMask = 0x36
	outerMask = 0x5c
	mostSize  = 128 // bytes of a derived key
	pieces    = mostSize / sha.Size
)

// Mac is the HMAC of a message that is still being written. It keeps no key, only the two hashes that the key begins.
type Mac struct {
	inner *sha.Hash
	outer *sha.Hash
	text  *sha.Hash // inner, followed by the message
}

// Sum returns the HMAC of the concatenation of the parts.
func Sum(key []byte, parts ...[]byte) []byte {
	return New(key).whole(parts...)
}

// New returns a Mac of the empty message.
func New(key []byte) *Mac {
	padded := pad(key)
	m := &Mac{inner: begin(padded, innerMask), outer: begin(padded, outerMask)}
	m.Reset()
	return m
}

// Write appends p to the message and returns len(p).
func (m *Mac) Write(p []byte) int {
	if m == nil {
		return 0
	}
	return m.text.Write(p)
}

// Sum returns the HMAC of everything written so far; further writes may follow.
func (m *Mac) Sum() []byte {
	if m == nil {
		return nil
	}
	end := m.outer.Copy()
	end.Write(m.text.Sum())
	return end.Sum()
}

// Reset discards the message and keeps the key.
func (m *Mac) Reset() {
	if m == nil {
		return
	}
	m.text = m.inner.Copy()
}

// Stretch returns the first size bytes of PBKDF2 with that number of iterations.
func Stretch(pass, salt []byte, rounds, size int) ([]byte, api.Errno) {
	if rounds < 1 || rounds > api.MaxIter || size < 1 || size > mostSize {
		return nil, api.ErrArg
	}
	return first(size, stretched(pass, salt, rounds)), api.OK
}

// Extract returns HKDF-Extract. An empty salt needs no case of its own: as a key, it is padded to the same bytes as the 32 zero bytes that it stands for.
func Extract(salt, secret []byte) []byte {
	return Sum(salt, secret)
}

// Expand returns size bytes of HKDF-Expand.
func Expand(key []byte, info []byte, size int) ([]byte, api.Errno) {
	if size < 1 || size > mostSize {
		return nil, api.ErrArg
	}
	return first(size, expanded(key, info)), api.OK
}

// Equal reports whether a and b are equal. It looks at every byte, so that its time doesn't tell where they differ.
func Equal(a, b []byte) bool {
	if len(a) != len(b) {
		return false
	}
	var differs byte
	for i := range a {
		differs |= a[i] ^ b[i]
	}
	return differs == 0
}

// Xor returns the bytewise exclusive or, with the length of the shorter argument.
func Xor(a, b []byte) []byte {
	out := make([]byte, min(len(a), len(b)))
	for i := range out {
		out[i] = a[i] ^ b[i]
	}
	return out
}

// pad makes a key as long as a block.
func pad(key []byte) [sha.Block]byte {
	if len(key) > sha.Block {
		key = sha.Sum(key)
	}
	var padded [sha.Block]byte
	copy(padded[:], key)
	return padded
}

// begin returns a hash that starts with the masked key.
func begin(key [sha.Block]byte, mask byte) *sha.Hash {
	for i := range key {
		key[i] ^= mask
	}
	h := sha.New()
	h.Write(key[:])
	return h
}

// whole returns the HMAC of the parts alone.
func (m *Mac) whole(parts ...[]byte) []byte {
	m.Reset()
	for _, part := range parts {
		m.Write(part)
	}
	return m.Sum()
}

// stretched iterates over the pieces of a PBKDF2 key, as many as the longest key needs.
func stretched(pass, salt []byte, rounds int) iter.Seq[[]byte] {
	return func(yield func([]byte) bool) {
		m := New(pass)
		for i := range pieces {
			if !yield(m.stretch(salt, rounds, byte(i+1))) {
				return
			}
		}
	}
}

// stretch returns one piece of a PBKDF2 key. Its number is written in 4 bytes, but a byte has room for it.
func (m *Mac) stretch(salt []byte, rounds int, number byte) []byte {
	last := m.whole(salt, []byte{0, 0, 0, number})
	piece := last
	for range rounds - 1 {
		last = m.whole(last)
		piece = Xor(piece, last)
	}
	return piece
}

// expanded iterates over the pieces of an HKDF key, as many as the longest key needs.
func expanded(key, info []byte) iter.Seq[[]byte] {
	return func(yield func([]byte) bool) {
		m := New(key)
		var last []byte
		for i := range pieces {
			last = m.whole(last, info, []byte{byte(i + 1)})
			if !yield(last) {
				return
			}
		}
	}
}

// first returns the first size bytes of the pieces. It copies them into memory of that size, so that the rest of the last piece isn't handed out as spare capacity.
func first(size int, key iter.Seq[[]byte]) []byte {
	out := make([]byte, 0, size)
	for piece := range key {
		need := min(size-len(out), len(piece))
		out = append(out, piece[:need:need]...)
		if len(out) == size {
			break
		}
	}
	return out
}
