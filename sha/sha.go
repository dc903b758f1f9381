// Package sha is layer 1: the hash function SHA-256 (FIPS 180-4).
package sha

import (
	"iter"
	"math/bits"

	"ostiary/api"
)

// Size is the length of a hash, Block that of a block, both in bytes.
const (
	Size  = 32
	Block = 64
)

const (
	countSize = 8                // the bytes in which a length is written
	headSize  = Size + countSize // what a saved state has ahead of the tail
	tooLong   = 1 << 61          // from here on the length in bits has no room in 8 bytes
	rounds    = 64
)

// roundConstants are the first 32 bits of the fractional parts of the cube roots of the first 64 primes.
var roundConstants = [rounds]uint32{
	0x428a2f98, 0x71374491, 0xb5c0fbcf, 0xe9b5dba5, 0x3956c25b, 0x59f111f1, 0x923f82a4, 0xab1c5ed5,
	0xd807aa98, 0x12835b01, 0x243185be, 0x550c7dc3, 0x72be5d74, 0x80deb1fe, 0x9bdc06a7, 0xc19bf174,
	0xe49b69c1, 0xefbe4786, 0x0fc19dc6, 0x240ca1cc, 0x2de92c6f, 0x4a7484aa, 0x5cb0a9dc, 0x76f988da,
	0x983e5152, 0xa831c66d, 0xb00327c8, 0xbf597fc7, 0xc6e00bf3, 0xd5a79147, 0x06ca6351, 0x14292967,
	0x27b70a85, 0x2e1b2138, 0x4d2c6dfc, 0x53380d13, 0x650a7354, 0x766a0abb, 0x81c2c92e, 0x92722c85,
	0xa2bfe8a1, 0xa81a664b, 0xc24b8b70, 0xc76c51a3, 0xd192e819, 0xd6990624, 0xf40e3585, 0x106aa070,
	0x19a4c116, 0x1e376c08, 0x2748774c, 0x34b0bcb5, 0x391c0cb3, 0x4ed8aa4a, 0x5b9cca4f, 0x682e6ff3,
	0x748f82ee, 0x78a5636f, 0x84c87814, 0x8cc70208, 0x90befffa, 0xa4506ceb, 0xbef9a3f7, 0xc67178f2,
}

// Hash is the hash of a message that is still being written. It has no slices, so that a copy of it is independent.
type Hash struct {
	state [8]uint32   // after the last complete block
	tail  [Block]byte // begins with the bytes after that block
	total uint64      // the bytes written so far
}

// Sum returns the hash of the concatenation of its arguments.
func Sum(parts ...[]byte) []byte {
	h := New()
	for _, part := range parts {
		h.Write(part)
	}
	return h.Sum()
}

// New returns a Hash of the empty message.
func New() *Hash {
	return &Hash{state: [8]uint32{
		0x6a09e667, 0xbb67ae85, 0x3c6ef372, 0xa54ff53a,
		0x510e527f, 0x9b05688c, 0x1f83d9ab, 0x5be0cd19,
	}}
}

// Write appends p to the message and returns len(p).
func (h *Hash) Write(p []byte) int {
	if h == nil {
		return 0
	}
	used := int(h.total % Block)
	h.total += uint64(len(p))
	taken := copy(h.tail[used:], p)
	if used+taken < Block {
		return len(p)
	}
	h.state = mix(h.state, h.tail[:])
	rest := p[taken:]
	for block := range whole(rest) {
		h.state = mix(h.state, block)
	}
	copy(h.tail[:], rest[len(rest)-len(rest)%Block:])
	return len(p)
}

// Sum returns the hash of everything written so far. It pads a copy, so that further writes may follow.
func (h *Hash) Sum() []byte {
	if h == nil {
		return nil
	}
	end := *h
	end.Write(padding(h.total))
	return appendWords(make([]byte, 0, Size), end.state)
}

// Len returns the number of bytes written.
func (h *Hash) Len() uint64 {
	if h == nil {
		return 0
	}
	return h.total
}

// Save returns the state, the length and the bytes after the last complete block.
func (h *Hash) Save() []byte {
	if h == nil {
		return nil
	}
	tail := h.tail[:h.total%Block]
	out := make([]byte, 0, headSize+len(tail))
	out = appendWords(out, h.state)
	out = appendCount(out, h.total)
	return append(out, tail...)
}

// Load returns a Hash in the state that Save wrote.
func Load(p []byte) (*Hash, api.Errno) {
	if len(p) < headSize {
		return nil, api.ErrShort
	}
	total := uint64(word(p[Size:]))<<32 | uint64(word(p[Size+4:]))
	if total >= tooLong {
		return nil, api.ErrLong
	}
	tail := p[headSize:]
	want := int(total % Block)
	if len(tail) < want {
		return nil, api.ErrShort
	}
	if len(tail) > want {
		return nil, api.ErrForm
	}
	h := &Hash{total: total}
	for i := range h.state {
		h.state[i] = word(p[4*i:])
	}
	copy(h.tail[:], tail)
	return h, api.OK
}

// Copy returns an independent Hash in the same state.
func (h *Hash) Copy() *Hash {
	if h == nil {
		return nil
	}
	other := *h
	return &other
}

// Blocks iterates over the blocks of the padded message. The text is copied at once, because the caller may overwrite it before ranging; each block is copied, because the caller may overwrite it before ranging again.
func Blocks(text []byte) iter.Seq[[]byte] {
	end := padding(uint64(len(text)))
	padded := make([]byte, 0, len(text)+len(end))
	padded = append(padded, text...)
	padded = append(padded, end...)
	return func(yield func([]byte) bool) {
		for block := range whole(padded) {
			if !yield(append(make([]byte, 0, Block), block...)) {
				return
			}
		}
	}
}

// Hex returns two hexadecimal digits per byte.
func Hex(p []byte) string {
	const digits = "0123456789abcdef"
	out := make([]byte, 0, 2*len(p))
	for _, b := range p {
		out = append(out, digits[b>>4], digits[b&15])
	}
	return string(out)
}

// whole iterates over the complete blocks of p without copying them. Each is cut off together with its capacity, so that nothing reaches past it.
func whole(p []byte) iter.Seq[[]byte] {
	return func(yield func([]byte) bool) {
		for at := 0; len(p)-at >= Block; at += Block {
			if !yield(p[at : at+Block : at+Block]) {
				return
			}
		}
	}
}

// padding returns what follows a message of that many bytes: at least 80 and the length in bits, hence one more block where these no longer fit.
func padding(total uint64) []byte {
	size := Block - int(total%Block)
	if size < 1+countSize {
		size += Block
	}
	out := make([]byte, size-countSize, size)
	out[0] = 0x80
	return appendCount(out, total*8)
}

// mix returns the state after a block. The names of the words are those of FIPS 180-4, section 6.2.2.
func mix(state [8]uint32, block []byte) [8]uint32 {
	w := schedule(block)
	a, b, c, d, e, f, g, h := state[0], state[1], state[2], state[3], state[4], state[5], state[6], state[7]
	for i := range rounds {
		t := h + bigSigma1(e) + choose(e, f, g) + roundConstants[i] + w[i]
		u := bigSigma0(a) + majority(a, b, c)
		a, b, c, d, e, f, g, h = t+u, a, b, c, d+t, e, f, g
	}
	for i, v := range [8]uint32{a, b, c, d, e, f, g, h} {
		state[i] += v
	}
	return state
}

// schedule returns the words that a block contributes to the rounds.
func schedule(block []byte) [rounds]uint32 {
	var w [rounds]uint32
	for i := range Block / 4 {
		w[i] = word(block[4*i:])
	}
	for i := Block / 4; i < rounds; i++ {
		w[i] = w[i-16] + smallSigma0(w[i-15]) + w[i-7] + smallSigma1(w[i-2])
	}
	return w
}

// The functions of FIPS 180-4, section 4.1.2. A rotation to the right has a negative count.

func choose(x, y, z uint32) uint32 { return x&y ^ ^x&z }

func majority(x, y, z uint32) uint32 { return x&y ^ x&z ^ y&z }

func bigSigma0(x uint32) uint32 {
	return bits.RotateLeft32(x, -2) ^ bits.RotateLeft32(x, -13) ^ bits.RotateLeft32(x, -22)
}

func bigSigma1(x uint32) uint32 {
	return bits.RotateLeft32(x, -6) ^ bits.RotateLeft32(x, -11) ^ bits.RotateLeft32(x, -25)
}

func smallSigma0(x uint32) uint32 {
	return bits.RotateLeft32(x, -7) ^ bits.RotateLeft32(x, -18) ^ x>>3
}

func smallSigma1(x uint32) uint32 {
	return bits.RotateLeft32(x, -17) ^ bits.RotateLeft32(x, -19) ^ x>>10
}

// word reads the big-endian word at the start of p.
func word(p []byte) uint32 {
	return uint32(p[0])<<24 | uint32(p[1])<<16 | uint32(p[2])<<8 | uint32(p[3])
}

func appendWord(out []byte, w uint32) []byte {
	return append(out, byte(w>>24), byte(w>>16), byte(w>>8), byte(w))
}

func appendWords(out []byte, words [8]uint32) []byte {
	for _, w := range words {
		out = appendWord(out, w)
	}
	return out
}

func appendCount(out []byte, n uint64) []byte {
	return appendWord(appendWord(out, uint32(n>>32)), uint32(n))
}
