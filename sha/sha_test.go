package sha

import (
	"bytes"
	"crypto/sha256"
	"encoding/binary"
	"encoding/hex"
	"iter"
	"math/rand"
	"slices"
	"strings"
	"testing"

	"ostiary/api"
)

// sample returns n bytes that are the same in every run.
func sample(n int) []byte {
	p := make([]byte, n)
	rand.New(rand.NewSource(int64(n))).Read(p)
	return p
}

// reference returns the hash by the standard library.
func reference(p []byte) []byte {
	sum := sha256.Sum256(p)
	return sum[:]
}

// overwrite changes a slice and its spare capacity.
func overwrite(p []byte) {
	p = p[:cap(p)]
	for i := range p {
		p[i] ^= 0xff
	}
}

// spare returns a copy of p whose spare capacity is filled, and a check that nothing of it changed.
func spare(t *testing.T, p []byte) ([]byte, func()) {
	t.Helper()
	all := append(slices.Clone(p), bytes.Repeat([]byte{0xa5}, 200)...)
	before := slices.Clone(all)
	return all[:len(p)], func() {
		t.Helper()
		if !bytes.Equal(all, before) {
			t.Fatal("an argument was changed")
		}
	}
}

// collect returns copies of what an iterator yields.
func collect(blocks iter.Seq[[]byte]) [][]byte {
	var out [][]byte
	for b := range blocks {
		out = append(out, slices.Clone(b))
	}
	return out
}

func TestP1_1KnownHashes(t *testing.T) {
	for text, want := range map[string]string{
		"":    "e3b0c44298fc1c149afbf4c8996fb92427ae41e4649b934ca495991b7852b855",
		"abc": "ba7816bf8f01cfea414140de5dae2223b00361a396177a9cb410ff61f20015ad",
		"abcdbcdecdefdefgefghfghighijhijkijkljklmklmnlmnomnopnopq":                                                         "248d6a61d20638b8e5c026930c3e6039a33ce45964ff2167f6ecedd419db06c1",
		"abcdefghbcdefghicdefghijdefghijkefghijklfghijklmghijklmnhijklmnoijklmnopjklmnopqklmnopqrlmnopqrsmnopqrstnopqrstu": "cf5b16a778af8380036ce59e7b0492370b249b11e8f07a51afac45037afee9d1",
		strings.Repeat("a", 1000000): "cdc76e5c9914fb9281a1c7e284d73e67f1809a48a497200e046d39ccc7112cd0",
	} {
		if got := hex.EncodeToString(Sum([]byte(text))); got != want {
			t.Errorf("hash of %.20q (%d bytes): %s, not %s", text, len(text), got, want)
		}
	}
}

func TestP1_1SumOfEveryLength(t *testing.T) {
	for n := range 4*Block + 2 {
		p := sample(n)
		if got := Sum(p); !bytes.Equal(got, reference(p)) {
			t.Errorf("hash of %d bytes: %x", n, got)
		}
	}
}

func TestP1_1SumOfParts(t *testing.T) {
	p := sample(200)
	want := reference(p)
	for i := 0; i <= len(p); i += 7 {
		for j := i; j <= len(p); j += 13 {
			if got := Sum(p[:i], nil, p[i:j], []byte{}, p[j:]); !bytes.Equal(got, want) {
				t.Fatalf("parts cut at %d and %d: %x", i, j, got)
			}
		}
	}
	if empty := reference(nil); !bytes.Equal(Sum(), empty) || !bytes.Equal(Sum(nil), empty) || !bytes.Equal(Sum(nil, []byte{}), empty) {
		t.Error("no parts and empty parts are the empty message")
	}
}

func TestP1_1WriteSumLen(t *testing.T) {
	p := sample(700)
	for _, step := range []int{1, 3, 55, 56, 63, 64, 65, 127, 128, 129, 200, 700} {
		h := New()
		if !bytes.Equal(h.Sum(), reference(nil)) || h.Len() != 0 {
			t.Fatal("a new Hash isn't that of the empty message")
		}
		at := 0
		for part := range slices.Chunk(p, step) {
			if got := h.Write(part); got != len(part) {
				t.Fatalf("Write of %d bytes answers %d", len(part), got)
			}
			at += len(part)
			for range 2 {
				if got := h.Sum(); !bytes.Equal(got, reference(p[:at])) {
					t.Fatalf("steps of %d, at %d: %x", step, at, got)
				}
			}
			if h.Len() != uint64(at) {
				t.Fatalf("Len is %d, not %d", h.Len(), at)
			}
		}
	}
}

func TestP1_1WriteOfNothing(t *testing.T) {
	h := New()
	for _, n := range []int{0, 5, 58, 1, 64} {
		h.Write(sample(n))
		before := h.Save()
		if h.Write(nil) != 0 || h.Write([]byte{}) != 0 || !bytes.Equal(h.Save(), before) {
			t.Fatalf("a write of nothing has an effect at %d", h.Len())
		}
	}
}

func TestP1_1Copy(t *testing.T) {
	for _, n := range []int{0, 1, 63, 64, 65, 130} {
		p, q, r := sample(n), sample(70), sample(71)
		h := New()
		h.Write(p)
		c := h.Copy()
		if c == h || c.Len() != uint64(n) || !bytes.Equal(c.Sum(), reference(p)) {
			t.Fatalf("a copy at %d isn't in the same state", n)
		}
		h.Write(q)
		c.Write(r)
		if !bytes.Equal(h.Sum(), reference(append(slices.Clone(p), q...))) || !bytes.Equal(c.Sum(), reference(append(slices.Clone(p), r...))) {
			t.Fatalf("a copy at %d isn't independent", n)
		}
	}
}

func TestP1_1Memory(t *testing.T) {
	p, unchanged := spare(t, sample(100))
	h := New()
	h.Write(p)
	first := h.Sum()
	want := slices.Clone(first)
	sum := Sum(p, p[:3])
	load, _ := Load(h.Save())
	unchanged()
	overwrite(p)
	overwrite(sum)
	if !bytes.Equal(h.Sum(), want) || !bytes.Equal(load.Sum(), want) {
		t.Error("a Hash keeps its argument")
	}
	overwrite(first)
	if !bytes.Equal(h.Sum(), want) {
		t.Error("a Hash keeps its result")
	}
	overwrite(h.Save())
	if !bytes.Equal(h.Sum(), want) {
		t.Error("a Hash keeps its saved state")
	}
}

// TestP1_2SaveLayout: the state that is saved is that of the standard library, whose form is "sha", 3, the words, 64 bytes of the tail and the length.
func TestP1_2SaveLayout(t *testing.T) {
	for n := range 3*Block + 2 {
		p := sample(n)
		h := New()
		h.Write(p)
		other := sha256.New()
		other.Write(p)
		form, err := other.(interface{ MarshalBinary() ([]byte, error) }).MarshalBinary()
		if err != nil {
			t.Fatal(err)
		}
		want := slices.Clone(form[4:36])
		want = binary.BigEndian.AppendUint64(want, uint64(n))
		want = append(want, p[n-n%Block:]...)
		if got := h.Save(); !bytes.Equal(got, want) {
			t.Fatalf("state after %d bytes: %x, not %x", n, got, want)
		}
		if !bytes.Equal(h.Sum(), reference(p)) {
			t.Fatalf("Save after %d bytes has an effect", n)
		}
	}
}

func TestP1_2LoadGoesOn(t *testing.T) {
	for n := range 2*Block + 2 {
		p, q := sample(n), sample(100)
		h := New()
		h.Write(p)
		saved := h.Save()
		g, e := Load(saved)
		if e != api.OK || g.Len() != uint64(n) || !bytes.Equal(g.Save(), saved) {
			t.Fatalf("state after %d bytes isn't loaded: %d", n, e)
		}
		g.Write(q)
		if !bytes.Equal(g.Sum(), reference(append(p, q...))) {
			t.Fatalf("a Hash loaded after %d bytes doesn't go on", n)
		}
	}
}

// state returns a saved state with that length and that many bytes behind it.
func state(total uint64, tail int) []byte {
	p := binary.BigEndian.AppendUint64(sample(Size), total)
	return append(p, sample(tail)...)
}

func TestP1_2LoadErrors(t *testing.T) {
	for _, c := range []struct {
		what string
		p    []byte
		want api.Errno
	}{
		{"nothing", nil, api.ErrShort},
		{"empty", []byte{}, api.ErrShort},
		{"39 bytes", make([]byte, 39), api.ErrShort},
		{"39 bytes of a length too great", bytes.Repeat([]byte{0xff}, 39), api.ErrShort},
		{"40 bytes", make([]byte, 40), api.OK},
		{"the greatest length", state(1<<61-1, 63), api.OK},
		{"a great length without a tail", state(1<<61-64, 0), api.OK},
		{"a length of 2^61", state(1<<61, 0), api.ErrLong},
		{"a length of 2^61+1 without its byte", state(1<<61+1, 0), api.ErrLong},
		{"a length of 2^61 with a byte too many", state(1<<61, 1), api.ErrLong},
		{"a length of 2^63", state(1<<63, 0), api.ErrLong},
		{"the greatest number", state(1<<64-1, 63), api.ErrLong},
		{"no byte of 1", state(1, 0), api.ErrShort},
		{"62 bytes of 63", state(63, 62), api.ErrShort},
		{"62 bytes of 63 of the greatest length", state(1<<61-1, 62), api.ErrShort},
		{"a byte of none", state(64, 1), api.ErrForm},
		{"a byte too many", state(5, 6), api.ErrForm},
		{"a block too many", state(5, 69), api.ErrForm},
		{"all 64 bytes of a complete block", state(64, 64), api.ErrForm},
	} {
		h, e := Load(c.p)
		if e != c.want {
			t.Errorf("%s: error %d, not %d", c.what, e, c.want)
		}
		if (h != nil) != (c.want == api.OK) {
			t.Errorf("%s: a Hash beside an error, or none without", c.what)
		}
		if c.want == api.OK && !bytes.Equal(h.Save(), c.p) {
			t.Errorf("%s: saved otherwise than loaded", c.what)
		}
	}
}

func TestP1_3Blocks(t *testing.T) {
	for n := range 3*Block + 2 {
		p, unchanged := spare(t, sample(n))
		got := bytes.Join(collect(Blocks(p)), nil)
		unchanged()
		want := append(slices.Clone(p), 0x80)
		for len(want)%Block != Block-8 {
			want = append(want, 0)
		}
		want = binary.BigEndian.AppendUint64(want, uint64(8*n))
		if !bytes.Equal(got, want) {
			t.Fatalf("blocks of %d bytes: %x, not %x", n, got, want)
		}
	}
	for n, want := range map[int]int{0: 1, 55: 1, 56: 2, 63: 2, 64: 2, 119: 2, 120: 3} {
		if got := len(collect(Blocks(make([]byte, n)))); got != want {
			t.Errorf("a message of %d bytes has %d blocks, not %d", n, got, want)
		}
	}
	for b := range Blocks(make([]byte, 300)) {
		if len(b) != Block {
			t.Fatalf("a block of %d bytes", len(b))
		}
	}
}

func TestP1_3BlocksStop(t *testing.T) {
	blocks := Blocks(sample(200))
	for most := 1; most <= 4; most++ {
		n := 0
		blocks(func([]byte) bool {
			n++
			return n < most
		})
		if n != most {
			t.Errorf("%d blocks after a stop at %d", n, most)
		}
	}
	if len(collect(blocks)) != 4 {
		t.Error("a stop has an effect on the next pass")
	}
}

func TestP1_3BlocksMemory(t *testing.T) {
	p := sample(200)
	blocks := Blocks(p)
	want := collect(Blocks(p))
	overwrite(p)
	if !slices.EqualFunc(collect(blocks), want, bytes.Equal) {
		t.Error("Blocks keeps its argument")
	}
	var kept [][]byte
	for b := range blocks {
		kept = append(kept, b)
	}
	for i, b := range kept {
		if !bytes.Equal(b, want[i]) {
			t.Errorf("block %d shares memory with another", i)
		}
		overwrite(b)
	}
	if !slices.EqualFunc(collect(blocks), want, bytes.Equal) {
		t.Error("a block shares memory with that of another pass")
	}
}

func TestP1_3Hex(t *testing.T) {
	var all []byte
	for i := range 256 {
		all = append(all, byte(i))
	}
	if got := Hex(all); got != hex.EncodeToString(all) {
		t.Error(got)
	}
	if Hex(nil) != "" || Hex([]byte{}) != "" || Hex([]byte{0}) != "00" || Hex([]byte{0x0a, 0xf0}) != "0af0" {
		t.Error("short arguments")
	}
}

func TestP1_3NilHash(t *testing.T) {
	var h *Hash
	if h.Write([]byte("abc")) != 0 || h.Write(nil) != 0 || h.Len() != 0 || h.Sum() != nil || h.Save() != nil || h.Copy() != nil {
		t.Error("a nil Hash answers something")
	}
}

// TestP2Independent: what a Hash answers doesn't hang on another one.
func TestP2Independent(t *testing.T) {
	g, h := New(), New()
	g.Write(sample(100))
	h.Write(sample(30))
	g.Write(sample(20))
	if !bytes.Equal(h.Sum(), reference(sample(30))) || !bytes.Equal(New().Sum(), reference(nil)) {
		t.Error("a Hash hangs on another one")
	}
}
