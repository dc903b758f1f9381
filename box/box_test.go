package box_test

import (
	"bytes"
	"crypto/hmac"
	"crypto/pbkdf2"
	"crypto/sha256"
	"encoding/binary"
	"encoding/hex"
	"math"
	"math/rand"
	"slices"
	"strconv"
	"testing"

	"ostiary/api"
	"ostiary/box"
)

const tagSize = 32

// mark is what a handle begins with, ahead of its 24 zero bytes.
var mark = []byte{0xf1, 0x54, 0x52, 0x4d}

// handle writes the handle with that number.
func handle(n uint32) []byte {
	return binary.BigEndian.AppendUint32(slices.Concat(mark, make([]byte, 24)), n)
}

// raw returns 32 bytes that don't look like a handle.
func raw(b byte) []byte {
	return bytes.Repeat([]byte{b}, tagSize)
}

func xor(x, y []byte) []byte {
	out := slices.Clone(x)
	for i := range out {
		out[i] ^= y[i]
	}
	return out
}

// sample returns n bytes that are the same in every run.
func sample(n int) []byte {
	p := make([]byte, n)
	rand.New(rand.NewSource(int64(n))).Read(p)
	return p
}

// overwrite changes a slice and its spare capacity.
func overwrite(p []byte) {
	p = p[:cap(p)]
	for i := range p {
		p[i] ^= 0xff
	}
}

// spare returns a copy of p whose spare capacity is filled, and a check that nothing of it changed.
func spare(t *testing.T, p []byte) ([]byte, func()) {
	t.Helper()
	all := append(slices.Clone(p), bytes.Repeat([]byte{0xa5}, 200)...)
	before := slices.Clone(all)
	return all[:len(p)], func() {
		t.Helper()
		if !bytes.Equal(all, before) {
			t.Fatal("an argument was changed")
		}
	}
}

// text returns a text of its own for each number.
func text(n int) []byte {
	return []byte(strconv.Itoa(n))
}

// turn returns the exclusive or of two tags that can be turned.
func turn(t *testing.T, b *box.Box, x, y []byte) []byte {
	t.Helper()
	z, e := b.Turn(x, y)
	if e != api.OK {
		t.Fatalf("%x turned by %x: %d", x, y, e)
	}
	return z
}

// stretch returns a stretched password.
func stretch(t *testing.T, b *box.Box, pass, salt string, rounds int) []byte {
	t.Helper()
	tag, e := b.Stretch([]byte(pass), []byte(salt), rounds)
	if e != api.OK {
		t.Fatalf("%d rounds: %d", rounds, e)
	}
	return tag
}

// same reports whether two terms are equal; nil and empty slices are.
func same(x, y box.Term) bool {
	return x.Kind == y.Kind && bytes.Equal(x.Key, y.Key) && bytes.Equal(x.Text, y.Text) && x.Rounds == y.Rounds && slices.Equal(x.List, y.List) && bytes.Equal(x.Mask, y.Mask)
}

// is checks that a tag is the handle with that number.
func is(t *testing.T, tag []byte, n uint32) {
	t.Helper()
	if !bytes.Equal(tag, handle(n)) {
		t.Fatalf("the tag is %x, not the handle of %d", tag, n)
	}
}

// has checks the number of terms and the one that was added last.
func has(t *testing.T, b *box.Box, n int, want box.Term) {
	t.Helper()
	term, ok := b.Term(n)
	if b.Len() != n || !ok || !same(term, want) {
		t.Fatalf("term %d of %d is %v (%v), not %v", n, b.Len(), term, ok, want)
	}
}

// terms returns what Terms yields.
func terms(b *box.Box) ([]int, []box.Term) {
	var numbers []int
	var out []box.Term
	for n, term := range b.Terms() {
		numbers = append(numbers, n)
		out = append(out, term)
	}
	return numbers, out
}

// filled returns a symbolic box that has as many terms as it can hold: the hashes of the numbers from 0.
func filled() *box.Box {
	b := box.New(true)
	for n := range api.MaxTerms {
		b.Hash(text(n))
	}
	return b
}

// empty checks that a box has no terms.
func empty(t *testing.T, b *box.Box) {
	t.Helper()
	numbers, _ := terms(b)
	for _, n := range []int{math.MinInt, -1, 0, 1, 2, math.MaxInt} {
		if term, ok := b.Term(n); ok || !same(term, box.Term{}) {
			t.Fatalf("there is a term %d", n)
		}
	}
	if b.Len() != 0 || b.Full() || len(numbers) != 0 {
		t.Fatal("there are terms")
	}
}

func TestP5_1PlainKnown(t *testing.T) {
	b := box.New(false)
	for want, got := range map[string][]byte{
		"ba7816bf8f01cfea414140de5dae2223b00361a396177a9cb410ff61f20015ad": b.Hash([]byte("abc")),
		"e3b0c44298fc1c149afbf4c8996fb92427ae41e4649b934ca495991b7852b855": b.Hash(),
		"5bdcc146bf60754e6a042426089575c75a003f089d2739839dec58b964ec3843": b.Mac([]byte("Jefe"), []byte("what do ya want for nothing?")),
		"120fb6cffcf8b32c43e7225256c4f837a86548c92ccc35480805987cb70be17b": stretch(t, b, "password", "salt", 1),
		"ae4d0c95af6b46d32d0adff928f06dd02a303f8ef3c251dfd6e2d85a95474c43": stretch(t, b, "password", "salt", 2),
	} {
		if hex.EncodeToString(got) != want {
			t.Errorf("%x, not %s", got, want)
		}
	}
	empty(t, b)
}

func TestP5_1PlainHashMac(t *testing.T) {
	b := box.New(false)
	for n := range 140 {
		p, key := sample(n), sample(139-n)
		want := sha256.Sum256(p)
		m := hmac.New(sha256.New, key)
		m.Write(p)
		for cut := 0; cut <= n; cut += 5 {
			if got := b.Hash(p[:cut], nil, p[cut:]); !bytes.Equal(got, want[:]) {
				t.Fatalf("hash of %d bytes cut at %d: %x", n, cut, got)
			}
			if got := b.Mac(key, p[:cut], []byte{}, p[cut:]); !bytes.Equal(got, m.Sum(nil)) {
				t.Fatalf("MAC of %d bytes cut at %d: %x", n, cut, got)
			}
		}
	}
	empty(t, b)
}

func TestP5_1PlainStretch(t *testing.T) {
	b := box.New(false)
	for rounds := 1; rounds <= api.MaxIter; rounds++ {
		pass, salt := string(sample(rounds+10)), string(sample(rounds-1))
		want, err := pbkdf2.Key(sha256.New, pass, []byte(salt), rounds, tagSize)
		if got := stretch(t, b, pass, salt, rounds); err != nil || !bytes.Equal(got, want) {
			t.Fatalf("%d rounds: %x", rounds, got)
		}
	}
	empty(t, b)
}

func TestP5_1StretchErrors(t *testing.T) {
	for _, symbolic := range []bool{false, true} {
		b := box.New(symbolic)
		for _, rounds := range []int{math.MinInt, -1, 0, 65, 66, 1 << 32, 1<<32 + 1, math.MaxInt} {
			if tag, e := b.Stretch([]byte("p"), []byte("s"), rounds); e != api.ErrArg || len(tag) != 0 {
				t.Errorf("%d rounds: %x, %d", rounds, tag, e)
			}
		}
		empty(t, b)
	}
}

func TestP5_1PlainTurn(t *testing.T) {
	b := box.New(false)
	tags := [][]byte{raw(0), raw(7), raw(0xff), sample(tagSize), handle(0), handle(1), handle(99), xor(handle(3), raw(7)), b.Hash(nil)}
	for _, x := range tags {
		for _, y := range tags {
			if z := turn(t, b, x, y); !bytes.Equal(z, xor(x, y)) {
				t.Errorf("%x turned by %x: %x", x, y, z)
			}
		}
	}
	empty(t, b)
}

// unturnable checks that Turn returns ErrForm for two tags, in either order, and has no effect.
func unturnable(t *testing.T, b *box.Box, x, y []byte) {
	t.Helper()
	before := b.Len()
	for range 2 {
		if z, e := b.Turn(x, y); e != api.ErrForm || len(z) != 0 || b.Len() != before {
			t.Fatalf("%x turned by %x: %x, %d", x, y, z, e)
		}
		x, y = y, x
	}
}

func TestP5_1TurnSizes(t *testing.T) {
	for _, symbolic := range []bool{false, true} {
		b := box.New(symbolic)
		good := b.Hash([]byte("a"))
		for _, n := range []int{0, 1, 27, 28, 31, 33, 64, 4096} {
			unturnable(t, b, good, sample(n))
			unturnable(t, b, sample(n), sample(n))
			unturnable(t, b, raw(1), append(handle(1), make([]byte, n)...)[:n])
		}
		unturnable(t, b, good, nil)
		unturnable(t, b, nil, nil)
	}
}

func TestP5_1TurnUnknownHandles(t *testing.T) {
	b := box.New(true)
	unturnable(t, b, raw(1), handle(1))
	for n := range 5 {
		b.Hash(text(n))
		for _, unknown := range []uint32{0, uint32(n) + 2, 99, api.MaxTerms, 1 << 16, 1 << 31, math.MaxUint32} {
			unturnable(t, b, handle(1), handle(unknown))
			unturnable(t, b, raw(1), handle(unknown))
			unturnable(t, b, handle(unknown), handle(unknown))
		}
	}
	for n := range tagSize - 4 { // not quite a handle, so that it is a mask
		almost := handle(99)
		almost[n] ^= 1
		if z := turn(t, b, almost, raw(0)); !bytes.Equal(z, almost) {
			t.Fatalf("%x is no mask: %x", almost, z)
		}
	}
}

// TestP5_1HandleOfLaterTerm: a handle that is refused is accepted when there is such a term.
func TestP5_1HandleOfLaterTerm(t *testing.T) {
	b := box.New(true)
	unturnable(t, b, handle(1), raw(0))
	is(t, b.Hash(), 1)
	is(t, turn(t, b, handle(1), raw(0)), 1)
}

func TestP5_1SymbolicTerms(t *testing.T) {
	b := box.New(true)
	a, k := []byte("a"), []byte("k")
	is(t, b.Hash(a), 1)
	has(t, b, 1, box.Term{Kind: box.Hash, Text: a})
	is(t, b.Mac(k, a), 2)
	has(t, b, 2, box.Term{Kind: box.Mac, Key: k, Text: a})
	is(t, stretch(t, b, "k", "a", 1), 3)
	has(t, b, 3, box.Term{Kind: box.Stretch, Key: k, Text: a, Rounds: 1})
	is(t, stretch(t, b, "k", "a", 64), 4)
	has(t, b, 4, box.Term{Kind: box.Stretch, Key: k, Text: a, Rounds: 64})
	is(t, turn(t, b, handle(3), handle(1)), 5)
	has(t, b, 5, box.Term{Kind: box.Turn, List: []int{1, 3}, Mask: raw(0)})
	is(t, turn(t, b, raw(9), handle(2)), 6)
	has(t, b, 6, box.Term{Kind: box.Turn, List: []int{2}, Mask: raw(9)})
	is(t, turn(t, b, raw(9), xor(handle(77), raw(9))), 7)
	has(t, b, 7, box.Term{Kind: box.Turn, Mask: handle(77)})
	is(t, b.Hash(handle(1), a), 8)
	has(t, b, 8, box.Term{Kind: box.Hash, Text: append(handle(1), 'a')})
	is(t, b.Mac(handle(77), handle(0)), 9)
	has(t, b, 9, box.Term{Kind: box.Mac, Key: handle(77), Text: handle(0)})
	is(t, b.Hash(), 10)
	has(t, b, 10, box.Term{Kind: box.Hash})
	is(t, b.Mac(nil), 11)
	has(t, b, 11, box.Term{Kind: box.Mac})
	is(t, stretch(t, b, "", "", 1), 12)
	has(t, b, 12, box.Term{Kind: box.Stretch, Rounds: 1})
}

// TestP5_1EqualTerms: each of these is a term of its own, and has its number again when it is asked for again.
func TestP5_1EqualTerms(t *testing.T) {
	b := box.New(true)
	ask := func() [][]byte {
		var tags [][]byte
		pieces := []string{"", "a", "b", "ab", "ba", "\x00", "a\x00", string(handle(1)), "aa", "1", "10"}
		for _, x := range pieces {
			tags = append(tags, b.Hash([]byte(x)))
			for _, y := range pieces {
				tags = append(tags, b.Mac([]byte(x), []byte(y)))
				for _, rounds := range []int{1, 2, 10, 11, 64} {
					tags = append(tags, stretch(t, b, x, y, rounds))
				}
			}
		}
		for n := range 20 {
			for m := range n {
				tags = append(tags, turn(t, b, tags[n], tags[m]))
			}
			for _, mask := range [][]byte{raw(1), raw(2), xor(handle(1), raw(1))} {
				tags = append(tags, turn(t, b, tags[n], mask))
			}
		}
		for _, m := range []uint32{0, 1, 2, 5, math.MaxUint32} {
			tags = append(tags, turn(t, b, raw(0x55), xor(raw(0x55), handle(m))))
		}
		return tags
	}
	first := ask()
	for i, tag := range first {
		is(t, tag, uint32(i)+1)
	}
	second := ask()
	if !slices.EqualFunc(first, second, bytes.Equal) || b.Len() != len(first) {
		t.Error("equal terms have more than one number")
	}
}

func TestP5_1SymbolicParts(t *testing.T) {
	b := box.New(true)
	a, bc := []byte("a"), []byte("bc")
	is(t, b.Hash(a, bc), 1)
	is(t, b.Hash([]byte("abc")), 1)
	is(t, b.Hash(nil, []byte("ab"), []byte{}, []byte("c")), 1)
	is(t, b.Hash(bc, a), 2)
	is(t, b.Mac(a, bc), 3)
	is(t, b.Mac(a, []byte("b"), nil, []byte("c")), 3)
	is(t, b.Mac([]byte("ab"), []byte("c")), 4)
	is(t, b.Mac(nil, []byte("abc")), 5)
	is(t, b.Mac([]byte("abc")), 6)
	is(t, b.Mac([]byte("abc"), nil, []byte{}), 6)
	is(t, b.Hash(), 7)
	is(t, b.Hash(nil, []byte{}), 7)
	long, key := sample(5000), sample(300) // nothing of them is hashed or padded
	is(t, b.Mac(key, long[:4000], long[4000:]), 8)
	has(t, b, 8, box.Term{Kind: box.Mac, Key: key, Text: long})
}

func TestP5_1TurnOfMasks(t *testing.T) {
	b := box.New(true)
	for _, x := range [][]byte{raw(0), raw(7), sample(tagSize), xor(handle(0), raw(1))} {
		for _, y := range [][]byte{raw(0), raw(9), xor(handle(3), raw(8))} {
			if z := turn(t, b, x, y); !bytes.Equal(z, xor(x, y)) {
				t.Fatalf("%x turned by %x: %x", x, y, z)
			}
		}
	}
	empty(t, b)
	is(t, turn(t, b, raw(1), xor(raw(1), handle(0))), 1)
	has(t, b, 1, box.Term{Kind: box.Turn, Mask: handle(0)})
	is(t, turn(t, b, raw(2), xor(raw(2), handle(0))), 1)
	is(t, turn(t, b, raw(2), xor(raw(2), handle(1))), 2)
	has(t, b, 2, box.Term{Kind: box.Turn, Mask: handle(1)})
	if z := turn(t, b, handle(2), handle(1)); !bytes.Equal(z, xor(handle(0), handle(1))) {
		t.Fatalf("two masks that look like handles: %x", z)
	}
	if z := turn(t, b, handle(2), raw(3)); !bytes.Equal(z, xor(handle(1), raw(3))) {
		t.Fatalf("a mask that looks like a handle, and one that doesn't: %x", z)
	}
	is(t, turn(t, b, xor(handle(1), raw(3)), raw(3)), 2)
	if b.Len() != 2 {
		t.Fatal(b.Len())
	}
}

func TestP5_1TurnOfTerms(t *testing.T) {
	b := box.New(true)
	for n := range 3 {
		is(t, b.Hash(text(n)), uint32(n)+1)
	}
	if z := turn(t, b, handle(2), handle(2)); !bytes.Equal(z, raw(0)) {
		t.Fatalf("a tag turned by itself: %x", z)
	}
	is(t, turn(t, b, handle(2), raw(0)), 2)
	is(t, turn(t, b, raw(0), handle(3)), 3)
	is(t, turn(t, b, handle(3), handle(2)), 4)
	has(t, b, 4, box.Term{Kind: box.Turn, List: []int{2, 3}, Mask: raw(0)})
	is(t, turn(t, b, handle(2), handle(3)), 4)
	is(t, turn(t, b, handle(1), handle(4)), 5)
	has(t, b, 5, box.Term{Kind: box.Turn, List: []int{1, 2, 3}, Mask: raw(0)})
	is(t, turn(t, b, handle(5), handle(4)), 1)
	is(t, turn(t, b, handle(5), handle(3)), 6)
	has(t, b, 6, box.Term{Kind: box.Turn, List: []int{1, 2}, Mask: raw(0)})
	is(t, turn(t, b, handle(6), handle(4)), 7)
	has(t, b, 7, box.Term{Kind: box.Turn, List: []int{1, 3}, Mask: raw(0)})
	is(t, turn(t, b, handle(7), raw(5)), 8)
	has(t, b, 8, box.Term{Kind: box.Turn, List: []int{1, 3}, Mask: raw(5)})
	is(t, turn(t, b, handle(8), handle(1)), 9)
	has(t, b, 9, box.Term{Kind: box.Turn, List: []int{3}, Mask: raw(5)})
	is(t, turn(t, b, handle(9), raw(5)), 3)
	if z := turn(t, b, handle(8), handle(7)); !bytes.Equal(z, raw(5)) {
		t.Fatalf("the mask alone is left: %x", z)
	}
	if b.Len() != 9 {
		t.Fatal(b.Len())
	}
}

func TestP5_1TurnExample(t *testing.T) {
	b := box.New(true)
	x, y := b.Hash([]byte("a")), b.Hash([]byte("b"))
	is(t, x, 1)
	is(t, y, 2)
	z := turn(t, b, x, y)
	is(t, z, 3)
	is(t, turn(t, b, z, x), 2)
}

// model is a slow reading of the chapter: terms are looked for one by one.
type model struct {
	terms []box.Term
	most  int
	full  bool
}

func (m *model) enter(term box.Term) []byte {
	for i := range m.terms {
		if same(m.terms[i], term) {
			return handle(uint32(i) + 1)
		}
	}
	if len(m.terms) == m.most {
		m.full = true
		return raw(0)
	}
	m.terms = append(m.terms, term)
	return handle(uint32(len(m.terms)))
}

// read adds the terms and the mask of a tag to those that are there.
func (m *model) read(tag []byte, odd []bool, mask []byte) bool {
	if len(tag) != tagSize {
		return false
	}
	if !bytes.Equal(tag[:28], handle(0)[:28]) {
		copy(mask, xor(mask, tag))
		return true
	}
	n := int(binary.BigEndian.Uint32(tag[28:]))
	if n == 0 || n > len(m.terms) {
		return false
	}
	if m.terms[n-1].Kind != box.Turn {
		odd[n] = !odd[n]
		return true
	}
	for _, k := range m.terms[n-1].List {
		odd[k] = !odd[k]
	}
	copy(mask, xor(mask, m.terms[n-1].Mask))
	return true
}

func (m *model) turn(x, y []byte) ([]byte, api.Errno) {
	odd, mask := make([]bool, len(m.terms)+1), make([]byte, tagSize)
	if !m.read(x, odd, mask) || !m.read(y, odd, mask) {
		return nil, api.ErrForm
	}
	var list []int
	for n := range odd {
		if odd[n] {
			list = append(list, n)
		}
	}
	if len(list) == 0 && !bytes.Equal(mask[:28], handle(0)[:28]) {
		return mask, api.OK
	}
	if len(list) == 1 && bytes.Equal(mask, raw(0)) {
		return handle(uint32(list[0])), api.OK
	}
	return m.enter(box.Term{Kind: box.Turn, List: list, Mask: mask}), api.OK
}

// player makes the same calls of a box and of a model.
type player struct {
	r    *rand.Rand
	b    *box.Box
	m    *model
	tags [][]byte
}

// tag returns an earlier tag, or another one of any kind.
func (p *player) tag() []byte {
	switch p.r.Intn(8) {
	case 0:
		return handle(uint32(p.r.Intn(len(p.m.terms) + 3)))
	case 1:
		return raw(byte(p.r.Intn(4)))
	case 2:
		return xor(handle(uint32(p.r.Intn(9))), raw(byte(p.r.Intn(4))))
	case 3:
		return raw(1)[:p.r.Intn(tagSize+1)]
	}
	if len(p.tags) == 0 {
		return raw(5)
	}
	return p.tags[p.r.Intn(len(p.tags))]
}

// step makes one call, and returns what the box and the model answer.
func (p *player) step() ([]byte, []byte, bool) {
	key := []byte("kkk")[:p.r.Intn(4)]
	words := slices.Concat([]byte("ttt")[:p.r.Intn(4)], p.tag())
	switch p.r.Intn(10) {
	case 0:
		return p.b.Hash(words), p.m.enter(box.Term{Kind: box.Hash, Text: words}), true
	case 1:
		return p.b.Mac(key, words), p.m.enter(box.Term{Kind: box.Mac, Key: key, Text: words}), true
	case 2:
		rounds := 1 + p.r.Intn(3)
		got, e := p.b.Stretch(key, words, rounds)
		return got, p.m.enter(box.Term{Kind: box.Stretch, Key: key, Text: words, Rounds: rounds}), e == api.OK
	}
	x, y := p.tag(), p.tag()
	got, e := p.b.Turn(x, y)
	want, wantErrno := p.m.turn(x, y)
	return got, want, e == wantErrno
}

// play makes that many calls, and compares what is in the box.
func (p *player) play(t *testing.T, steps int) {
	t.Helper()
	for range steps {
		got, want, ok := p.step()
		if !ok || !bytes.Equal(got, want) {
			t.Fatalf("%x, not %x", got, want)
		}
		if len(got) == tagSize {
			p.tags = append(p.tags, got)
		}
		if p.b.Len() != len(p.m.terms) || p.b.Full() != p.m.full {
			t.Fatalf("%d terms, %v", p.b.Len(), p.b.Full())
		}
	}
	numbers, all := terms(p.b)
	for i := range p.m.terms {
		if numbers[i] != i+1 || !same(all[i], p.m.terms[i]) {
			t.Fatalf("term %d is %v, not %v", i+1, all[i], p.m.terms[i])
		}
	}
}

func TestP5_1Model(t *testing.T) {
	for seed := range 100 {
		p := &player{r: rand.New(rand.NewSource(int64(seed))), b: box.New(true), m: &model{most: api.MaxTerms}}
		p.play(t, 300)
	}
}

func TestP5_1ModelUntilFull(t *testing.T) {
	p := &player{r: rand.New(rand.NewSource(1)), b: box.New(true), m: &model{most: api.MaxTerms}}
	for n := range api.MaxTerms - 200 {
		p.b.Hash(text(n))
		p.m.terms = append(p.m.terms, box.Term{Kind: box.Hash, Text: text(n)})
	}
	p.play(t, 1500)
	if !p.b.Full() {
		t.Fatal("the box didn't become full")
	}
}

func TestP5_1Full(t *testing.T) {
	for what, add := range map[string]func(b *box.Box) []byte{
		"Hash":                func(b *box.Box) []byte { return b.Hash([]byte("new")) },
		"Mac":                 func(b *box.Box) []byte { return b.Mac([]byte("k"), []byte("0")) },
		"Stretch":             func(b *box.Box) []byte { return stretch(t, b, "k", "0", 1) },
		"Turn":                func(b *box.Box) []byte { return turn(t, b, handle(1), handle(api.MaxTerms)) },
		"Turn by a mask":      func(b *box.Box) []byte { return turn(t, b, handle(1), raw(1)) },
		"Turn into a handle":  func(b *box.Box) []byte { return turn(t, b, raw(1), xor(raw(1), handle(1))) },
		"Turn into no handle": func(b *box.Box) []byte { return turn(t, b, raw(1), xor(raw(1), handle(0))) },
	} {
		b := filled()
		if b.Full() || b.Len() != api.MaxTerms {
			t.Fatalf("%d terms, %v", b.Len(), b.Full())
		}
		for range 2 {
			if tag := add(b); !bytes.Equal(tag, raw(0)) || !b.Full() || b.Len() != api.MaxTerms {
				t.Fatalf("%s: %x, %d terms, %v", what, tag, b.Len(), b.Full())
			}
		}
		if term, ok := b.Term(api.MaxTerms + 1); ok || !same(term, box.Term{}) {
			t.Fatalf("%s: there is a term too many", what)
		}
		is(t, b.Hash([]byte("0")), 1)
		is(t, b.Hash(text(api.MaxTerms-1)), api.MaxTerms)
		is(t, turn(t, b, handle(2), raw(0)), 2)
		unturnable(t, b, handle(1), handle(api.MaxTerms+1))
		if !b.Full() {
			t.Fatalf("%s: the box doesn't stay full", what)
		}
	}
}

// TestP5_1NotFull: calls that add no term don't make the box full.
func TestP5_1NotFull(t *testing.T) {
	b := filled()
	for n := range api.MaxTerms {
		is(t, b.Hash(text(n)), uint32(n)+1)
	}
	is(t, turn(t, b, handle(7), raw(0)), 7)
	if tag := turn(t, b, handle(7), handle(7)); !bytes.Equal(tag, raw(0)) {
		t.Errorf("a tag turned by itself: %x", tag)
	}
	if tag := turn(t, b, raw(1), raw(2)); !bytes.Equal(tag, raw(3)) {
		t.Errorf("two masks: %x", tag)
	}
	unturnable(t, b, handle(1), handle(0))
	if _, e := b.Stretch(nil, nil, 0); e != api.ErrArg {
		t.Error(e)
	}
	if b.Full() {
		t.Error("the box is full")
	}
}

// TestP5_1LongLists: the numbers of a term's list are not cut short.
func TestP5_1LongLists(t *testing.T) {
	b := box.New(true)
	const most = 2100
	var want []int
	tag := raw(0)
	for n := range most {
		b.Hash(text(n))
		want = append(want, n+1)
	}
	for n := most; n > 200; n-- {
		tag = turn(t, b, tag, handle(uint32(n)))
	}
	has(t, b, b.Len(), box.Term{Kind: box.Turn, List: want[200:], Mask: raw(0)})
	if b.Len() != most+most-200-1 {
		t.Fatal(b.Len())
	}
}

func TestP5_1Memory(t *testing.T) {
	for _, symbolic := range []bool{false, true} {
		b := box.New(symbolic)
		key, keySame := spare(t, []byte("key"))
		one, oneSame := spare(t, []byte("one"))
		two, twoSame := spare(t, raw(2))
		three, threeSame := spare(t, raw(3))
		calls := func() [][]byte {
			return [][]byte{b.Hash(one, two), b.Mac(key, one, two), stretch(t, b, string(key), string(one), 2), turn(t, b, b.Hash(one), two), turn(t, b, two, three)}
		}
		got := calls()
		if tag, e := b.Stretch(key, one, 2); e != api.OK || !bytes.Equal(tag, got[2]) {
			t.Fatal(tag, e)
		}
		keySame()
		oneSame()
		twoSame()
		threeSame()
		if !bytes.Equal(turn(t, b, three, two), raw(1)) {
			t.Fatal("a Turn of masks")
		}
		want := make([][]byte, len(got))
		for i := range got {
			want[i] = slices.Clone(got[i])
		}
		for i := range got {
			overwrite(got[i])
		}
		if again := calls(); !slices.EqualFunc(again, want, bytes.Equal) {
			t.Fatalf("symbolic %v: %x, not %x", symbolic, again, want)
		}
	}
}

func TestP5_1ArgumentsNotKept(t *testing.T) {
	b := box.New(true)
	key, p, mask := []byte("key"), []byte("text"), raw(4)
	b.Hash(p)
	b.Mac(key, p)
	if _, e := b.Stretch(key, p, 3); e != api.OK {
		t.Fatal(e)
	}
	turn(t, b, handle(1), mask)
	overwrite(key)
	overwrite(p)
	overwrite(mask)
	is(t, b.Hash([]byte("text")), 1)
	is(t, b.Mac([]byte("key"), []byte("text")), 2)
	is(t, stretch(t, b, "key", "text", 3), 3)
	is(t, turn(t, b, handle(1), raw(4)), 4)
	has(t, b, 4, box.Term{Kind: box.Turn, List: []int{1}, Mask: raw(4)})
	if term, _ := b.Term(2); !same(term, box.Term{Kind: box.Mac, Key: []byte("key"), Text: []byte("text")}) {
		t.Error(term)
	}
}

// TestP2Independent: boxes don't share their terms, and the same calls have the same results.
func TestP2Independent(t *testing.T) {
	b, c := box.New(true), box.New(true)
	is(t, b.Hash([]byte("b")), 1)
	is(t, c.Hash([]byte("c")), 1)
	is(t, c.Hash([]byte("b")), 2)
	is(t, b.Hash([]byte("c")), 2)
	unturnable(t, b, handle(3), raw(0))
	has(t, b, 2, box.Term{Kind: box.Hash, Text: []byte("c")})
}

func TestP5_2Symbolic(t *testing.T) {
	for _, symbolic := range []bool{false, true} {
		b := box.New(symbolic)
		empty(t, b)
		if b.Symbolic() != symbolic {
			t.Errorf("Symbolic is %v", !symbolic)
		}
		b.Hash([]byte("a"))
		if b.Symbolic() != symbolic || b.Full() {
			t.Errorf("after a term: %v", b.Symbolic())
		}
	}
}

func TestP5_2Term(t *testing.T) {
	b := box.New(true)
	for n := range 6 {
		b.Hash(text(n))
	}
	turn(t, b, handle(2), handle(5))
	for _, n := range []int{math.MinInt, -1, 0, 8, 9, 1<<32 + 1, math.MaxInt} {
		if term, ok := b.Term(n); ok || !same(term, box.Term{}) {
			t.Errorf("there is a term %d: %v", n, term)
		}
	}
	for n := 1; n <= 6; n++ {
		if term, ok := b.Term(n); !ok || !same(term, box.Term{Kind: box.Hash, Text: text(n - 1)}) {
			t.Errorf("term %d: %v", n, term)
		}
	}
	if term, ok := b.Term(7); !ok || !same(term, box.Term{Kind: box.Turn, List: []int{2, 5}, Mask: raw(0)}) {
		t.Errorf("term 7: %v", term)
	}
	if b.Len() != 7 {
		t.Error("Term has an effect")
	}
}

// TestP5_2UnusedFields: fields of which the chapter says nothing for a kind are zero.
func TestP5_2UnusedFields(t *testing.T) {
	b := box.New(true)
	p := []byte("p")
	b.Hash(p)
	b.Mac(p, p)
	stretch(t, b, "p", "p", 1)
	turn(t, b, handle(1), handle(2))
	_, got := terms(b)
	want := []box.Term{
		{Kind: box.Hash, Text: p},
		{Kind: box.Mac, Key: p, Text: p},
		{Kind: box.Stretch, Key: p, Text: p, Rounds: 1},
		{Kind: box.Turn, List: []int{1, 2}, Mask: raw(0)},
	}
	if !slices.EqualFunc(got, want, same) {
		t.Error(got)
	}
}

func TestP5_2Terms(t *testing.T) {
	b := box.New(true)
	for want := range 5 {
		all := b.Terms()
		for range 2 {
			n := 0
			for k, term := range all {
				if k != n+1 || !same(term, box.Term{Kind: box.Hash, Text: text(n)}) {
					t.Fatalf("term %d is number %d: %v", n+1, k, term)
				}
				n++
			}
			if n != want {
				t.Fatalf("%d terms, not %d", n, want)
			}
		}
		b.Hash(text(want))
	}
}

func TestP5_2TermsStops(t *testing.T) {
	b := box.New(true)
	for n := range 5 {
		b.Hash(text(n))
	}
	for stop := 1; stop <= 5; stop++ {
		last := 0
		for n := range b.Terms() {
			last = n
			if n == stop {
				break
			}
		}
		if last != stop || b.Len() != 5 {
			t.Fatalf("stopped at %d, not %d", last, stop)
		}
	}
}

func TestP5_2TermsMemory(t *testing.T) {
	b := box.New(true)
	b.Mac([]byte("key"), []byte("text"))
	stretch(t, b, "pass", "salt", 2)
	turn(t, b, handle(1), handle(2))
	turn(t, b, handle(3), raw(1))
	_, want := terms(b)
	change := func(term box.Term) {
		overwrite(term.Key)
		overwrite(term.Text)
		overwrite(term.Mask)
		for i := range term.List {
			term.List[i] = 99
		}
	}
	for n := 1; n <= b.Len(); n++ {
		term, _ := b.Term(n)
		change(term)
	}
	for _, term := range b.Terms() {
		change(term)
	}
	if _, got := terms(b); !slices.EqualFunc(got, want, same) {
		t.Errorf("%v, not %v", got, want)
	}
	is(t, turn(t, b, handle(2), handle(1)), 3)
	is(t, turn(t, b, handle(4), raw(1)), 3)
}

func TestP5_2Number(t *testing.T) {
	for _, n := range []uint32{1, 2, 255, 256, 4096, 1 << 16, 1<<24 + 3, 1 << 31, math.MaxUint32} {
		if got, ok := box.Number(handle(n)); !ok || got != int(n) {
			t.Errorf("number %d: %d, %v", n, got, ok)
		}
	}
	none := [][]byte{nil, {}, handle(0), raw(0), raw(0xf1), handle(1)[:31], handle(1)[:28], append(handle(1), 0), append([]byte{0}, handle(1)...), append(handle(1), handle(1)...)}
	for i := range 28 {
		for bit := range 8 {
			p := handle(1)
			p[i] ^= 1 << bit
			none = append(none, p)
		}
	}
	for _, p := range none {
		if n, ok := box.Number(p); ok || n != 0 {
			t.Errorf("number of %x: %d, %v", p, n, ok)
		}
	}
}

func TestP5_2Handle(t *testing.T) {
	for n, want := range map[int]uint32{
		0: 0, 1: 1, 2: 2, 255: 255, 256: 256, 65536: 65536, 0x12345678: 0x12345678, math.MaxUint32: math.MaxUint32,
		1 << 32: 0, 1<<32 + 7: 7, 1<<40 + 1<<31: 1 << 31, -1: math.MaxUint32, -2: math.MaxUint32 - 1, -1 << 32: 0, math.MaxInt: math.MaxUint32, math.MinInt: 0, math.MinInt + 5: 5,
	} {
		is(t, box.Handle(n), want)
	}
	p := box.Handle(3)
	overwrite(p)
	is(t, box.Handle(3), 3)
}

// found is a handle in a text.
type found struct {
	at, n int
}

func handles(text []byte) []found {
	var out []found
	for at, n := range box.Handles(text) {
		out = append(out, found{at, n})
	}
	return out
}

// nested returns a handle within whose number another one begins, with so many bytes of it.
func nested(inside int, n uint32) []byte {
	return slices.Concat(handle(0)[:32-inside], handle(n))
}

func TestP5_2Handles(t *testing.T) {
	cat := func(parts ...[]byte) []byte { return slices.Concat(parts...) }
	a := []byte("a")
	for i, c := range []struct {
		text []byte
		want []found
	}{
		{nil, nil},
		{[]byte("abc"), nil},
		{handle(5), []found{{0, 5}}},
		{handle(0), nil},
		{handle(math.MaxUint32), []found{{0, math.MaxUint32}}},
		{handle(5)[:31], nil},
		{cat(a, handle(5)[:31]), nil},
		{cat(a, handle(5)), []found{{1, 5}}},
		{cat(handle(5), a), []found{{0, 5}}},
		{cat(handle(5), handle(5)), []found{{0, 5}, {32, 5}}},
		{cat(handle(5), a, handle(4), handle(0), handle(1<<20)), []found{{0, 5}, {33, 4}, {97, 1 << 20}}},
		{cat(handle(0), a, handle(1)), []found{{33, 1}}},
		{cat(mark, handle(7)), []found{{4, 7}}},
		{cat(handle(7)[:30], handle(8)), []found{{0, 0xf154}}},
		{cat(handle(7)[:27], handle(8)), []found{{27, 8}}},
		{nested(4, 9), []found{{0, 0xf154524d}}},
		{nested(3, 9), []found{{0, 0xf15452}}},
		{nested(2, 9), []found{{0, 0xf154}}},
		{nested(1, 9), []found{{0, 0xf1}}},
		{cat(nested(4, 9), handle(3)), []found{{0, 0xf154524d}, {60, 3}}},
		{cat(nested(4, 0xf154524d), make([]byte, 24), []byte{0, 0, 0, 2}), []found{{0, 0xf154524d}, {56, 2}}},
	} {
		if got := handles(c.text); !slices.Equal(got, c.want) {
			t.Errorf("text %d: %v, not %v", i, got, c.want)
		}
	}
}

// TestP5_2EveryText: texts that are pieced together are searched offset by offset.
func TestP5_2EveryText(t *testing.T) {
	r := rand.New(rand.NewSource(1))
	pieces := [][]byte{[]byte("x"), handle(0), handle(1), handle(math.MaxUint32), handle(2)[:31], handle(3)[:28], mark, mark[:2], make([]byte, 24), make([]byte, 3), {0, 0, 0, 5}}
	total := 0
	for range 20000 {
		var p []byte
		for range r.Intn(8) {
			p = append(p, pieces[r.Intn(len(pieces))]...)
		}
		var want []found
		free := 0
		for at := range len(p) {
			if at < free || len(p)-at < tagSize || !bytes.Equal(p[at:at+28], handle(0)[:28]) {
				continue
			}
			if n := binary.BigEndian.Uint32(p[at+28:]); n > 0 {
				want = append(want, found{at, int(n)})
				free = at + tagSize
			}
		}
		total += len(want)
		if got := handles(p); !slices.Equal(got, want) {
			t.Fatalf("%x: %v, not %v", p, got, want)
		}
	}
	if total < 10000 {
		t.Error("there were few handles")
	}
}

func TestP5_2HandlesStops(t *testing.T) {
	p := slices.Concat(handle(1), handle(2), []byte("-"), handle(3))
	all := box.Handles(p)
	for stop := 1; stop <= 3; stop++ {
		var got []int
		for _, n := range all {
			got = append(got, n)
			if n == stop {
				break
			}
		}
		if want := []int{1, 2, 3}[:stop]; !slices.Equal(got, want) {
			t.Fatalf("%v, not %v", got, want)
		}
	}
}

func TestP5_2HandlesMemory(t *testing.T) {
	p, unchanged := spare(t, slices.Concat(handle(1), []byte("-"), handle(2)))
	all := box.Handles(p)
	unchanged()
	overwrite(p)
	for range 2 {
		var got []found
		for at, n := range all {
			got = append(got, found{at, n})
		}
		if !slices.Equal(got, []found{{0, 1}, {33, 2}}) {
			t.Fatalf("the text was kept: %v", got)
		}
	}
	q := append(handle(3), handle(4)...)
	if got := handles(q[:tagSize+31]); !slices.Equal(got, []found{{0, 3}}) {
		t.Errorf("the spare capacity was searched: %v", got)
	}
}

func TestP5_2NilBox(t *testing.T) {
	var b *box.Box
	for _, tag := range [][]byte{b.Hash(), b.Hash([]byte("a")), b.Mac(nil), b.Mac([]byte("k"), []byte("a"))} {
		if len(tag) != 0 {
			t.Errorf("a nil box has a tag: %x", tag)
		}
	}
	for _, rounds := range []int{1, 0, -1, 65} {
		if tag, e := b.Stretch([]byte("p"), []byte("s"), rounds); len(tag) != 0 || e != api.ErrNone {
			t.Error(tag, e)
		}
	}
	for _, tag := range [][]byte{nil, raw(0), raw(1), handle(1), handle(0)} {
		if z, e := b.Turn(tag, raw(1)); len(z) != 0 || e != api.ErrNone {
			t.Error(z, e)
		}
	}
	if b.Symbolic() {
		t.Error("a nil box is symbolic")
	}
	empty(t, b)
}

func TestP5_3TurnedTwice(t *testing.T) {
	for _, symbolic := range []bool{false, true} {
		r := rand.New(rand.NewSource(2))
		b := box.New(symbolic)
		tags := [][]byte{raw(0), raw(1), raw(0xff), sample(tagSize), xor(handle(1), raw(1)), b.Hash([]byte("a")), b.Mac([]byte("k"), []byte("a")), stretch(t, b, "p", "s", 1), turn(t, b, raw(8), xor(handle(1), raw(8))), turn(t, b, raw(8), xor(handle(900), raw(8)))}
		for range 1000 {
			x, y := tags[r.Intn(len(tags))], tags[r.Intn(len(tags))]
			z := turn(t, b, x, y)
			if back := turn(t, b, z, y); !bytes.Equal(back, x) {
				t.Fatalf("%x turned twice by %x: %x", x, y, back)
			}
			if back := turn(t, b, y, z); !bytes.Equal(back, x) {
				t.Fatalf("%x turned twice by %x, the other way round: %x", x, y, back)
			}
			tags = append(tags, z)
		}
		if b.Full() || (b.Len() > 0) != symbolic {
			t.Error("there are too many terms for this test, or too few", b.Len())
		}
	}
}
