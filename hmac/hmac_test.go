package hmac

import (
	"bytes"
	"crypto/hkdf"
	stdhmac "crypto/hmac"
	"crypto/pbkdf2"
	"crypto/sha256"
	"encoding/hex"
	"math/rand"
	"slices"
	"strings"
	"testing"
	"time"

	"ostiary/api"
)

// sample returns n bytes that are the same in every run.
func sample(n int) []byte {
	p := make([]byte, n)
	rand.New(rand.NewSource(int64(n))).Read(p)
	return p
}

// reference returns the HMAC by the standard library.
func reference(key, text []byte) []byte {
	m := stdhmac.New(sha256.New, key)
	m.Write(text)
	return m.Sum(nil)
}

// overwrite changes a slice and its spare capacity.
func overwrite(p []byte) {
	p = p[:cap(p)]
	for i := range p {
		p[i] ^= 0xff
	}
}

// spare returns a copy of p whose spare capacity is filled, and a check that nothing of it changed.
func spare(t *testing.T, p []byte) ([]byte, func()) {
	t.Helper()
	all := append(slices.Clone(p), bytes.Repeat([]byte{0xa5}, 200)...)
	before := slices.Clone(all)
	return all[:len(p)], func() {
		t.Helper()
		if !bytes.Equal(all, before) {
			t.Fatal("an argument was changed")
		}
	}
}

// keySizes are the sizes of keys on both sides of where a key is replaced by its hash.
var keySizes = []int{0, 1, 20, 31, 32, 33, 63, 64, 65, 131, 200}

func TestP2_1KnownSums(t *testing.T) {
	for _, c := range []struct{ key, text, want string }{
		{strings.Repeat("\x0b", 20), "Hi There", "b0344c61d8db38535ca8afceaf0bf12b881dc200c9833da726e9376c2e32cff7"},
		{"Jefe", "what do ya want for nothing?", "5bdcc146bf60754e6a042426089575c75a003f089d2739839dec58b964ec3843"},
		{strings.Repeat("\xaa", 20), strings.Repeat("\xdd", 50), "773ea91e36800e46854db8ebd09181a72959098b3ef8c122d9635514ced565fe"},
		{strings.Repeat("\xaa", 131), "Test Using Larger Than Block-Size Key - Hash Key First", "60e431591ee0b67f0d8a26aacbf5b77f8e0bc6213728c5140546040f0ee37f54"},
		{"", "", "b613679a0814d9ec772f95d778c35fc5ff1697c493715653c6c712144292c5ad"},
	} {
		if got := hex.EncodeToString(Sum([]byte(c.key), []byte(c.text))); got != c.want {
			t.Errorf("HMAC of %q: %s, not %s", c.text, got, c.want)
		}
	}
}

func TestP2_1SumOfEveryKey(t *testing.T) {
	for n := range 140 {
		key, text := sample(n), sample(150-n)
		if got := Sum(key, text); !bytes.Equal(got, reference(key, text)) {
			t.Errorf("a key of %d bytes: %x", n, got)
		}
	}
}

func TestP2_1SumOfParts(t *testing.T) {
	key, p := sample(40), sample(150)
	want := reference(key, p)
	for i := 0; i <= len(p); i += 10 {
		if got := Sum(key, p[:i], nil, p[i:], []byte{}); !bytes.Equal(got, want) {
			t.Errorf("parts cut at %d: %x", i, got)
		}
	}
	if empty := reference(key, nil); !bytes.Equal(Sum(key), empty) || !bytes.Equal(Sum(key, nil), empty) {
		t.Error("no parts and an empty part are the empty message")
	}
	if !bytes.Equal(Sum(nil), reference(nil, nil)) || !bytes.Equal(Sum([]byte{}), reference(nil, nil)) {
		t.Error("a key of no bytes")
	}
}

func TestP2_1WriteSumReset(t *testing.T) {
	p := sample(300)
	for _, n := range keySizes {
		key := sample(n)
		m := New(key)
		if !bytes.Equal(m.Sum(), reference(key, nil)) {
			t.Fatal("a new Mac isn't that of the empty message")
		}
		for range 2 {
			at := 0
			for part := range slices.Chunk(p, 37) {
				if got := m.Write(part); got != len(part) {
					t.Fatalf("Write of %d bytes answers %d", len(part), got)
				}
				at += len(part)
				for range 2 {
					if !bytes.Equal(m.Sum(), reference(key, p[:at])) {
						t.Fatalf("a key of %d bytes, a message of %d", n, at)
					}
				}
			}
			if m.Write(nil) != 0 || !bytes.Equal(m.Sum(), reference(key, p)) {
				t.Fatal("a write of nothing has an effect")
			}
			m.Reset()
			if !bytes.Equal(m.Sum(), reference(key, nil)) {
				t.Fatal("Reset keeps the message, or discards the key")
			}
			m.Reset()
		}
	}
}

func TestP2_1Memory(t *testing.T) {
	for _, n := range keySizes {
		key, keyUnchanged := spare(t, sample(n))
		text, textUnchanged := spare(t, sample(100))
		want, wantEmpty := reference(key, text), reference(key, nil)
		m := New(key)
		m.Write(text)
		got := m.Sum()
		Sum(key, text, text)
		keyUnchanged()
		textUnchanged()
		overwrite(key)
		overwrite(text)
		overwrite(got)
		if !bytes.Equal(m.Sum(), want) {
			t.Errorf("a key of %d bytes: a Mac keeps an argument or its result", n)
		}
		m.Reset()
		if !bytes.Equal(m.Sum(), wantEmpty) {
			t.Errorf("a key of %d bytes: a Mac keeps its key's memory", n)
		}
	}
}

func TestP2_1NilMac(t *testing.T) {
	var m *Mac
	if m.Write([]byte("abc")) != 0 || m.Write(nil) != 0 || m.Sum() != nil {
		t.Error("a nil Mac answers something")
	}
	m.Reset()
}

func TestP1ZeroMac(t *testing.T) {
	var m Mac
	m.Write([]byte("abc"))
	m.Sum()
	m.Reset()
	m.Sum()
}

// TestP2Independent: what a Mac answers doesn't hang on another one.
func TestP2Independent(t *testing.T) {
	key, other := sample(10), sample(20)
	m, n := New(key), New(other)
	m.Write(sample(100))
	n.Write(sample(30))
	m.Reset()
	if !bytes.Equal(n.Sum(), reference(other, sample(30))) || !bytes.Equal(m.Sum(), reference(key, nil)) {
		t.Error("a Mac hangs on another one")
	}
}

func TestP2_2StretchKnown(t *testing.T) {
	for rounds, want := range map[int]string{
		1: "120fb6cffcf8b32c43e7225256c4f837a86548c92ccc35480805987cb70be17b",
		2: "ae4d0c95af6b46d32d0adff928f06dd02a303f8ef3c251dfd6e2d85a95474c43",
	} {
		got, e := Stretch([]byte("password"), []byte("salt"), rounds, 32)
		if e != api.OK || hex.EncodeToString(got) != want {
			t.Errorf("%d rounds: %x, %d", rounds, got, e)
		}
	}
}

func TestP2_2Stretch(t *testing.T) {
	for _, n := range keySizes {
		pass, salt := sample(n), sample(70-min(n, 70))
		for _, rounds := range []int{1, 2, 3, 63, 64} {
			want, err := pbkdf2.Key(sha256.New, string(pass), salt, rounds, 128)
			if err != nil {
				t.Fatal(err)
			}
			for _, size := range []int{1, 31, 32, 33, 63, 64, 65, 95, 96, 97, 127, 128} {
				got, e := Stretch(pass, salt, rounds, size)
				if e != api.OK || !bytes.Equal(got, want[:size]) {
					t.Fatalf("a password of %d bytes, %d rounds, %d bytes: %x, %d", n, rounds, size, got, e)
				}
			}
		}
	}
}

func TestP2_2StretchErrors(t *testing.T) {
	const lowest, greatest = -1 << 63, 1<<63 - 1
	for _, c := range []struct{ rounds, size int }{
		{0, 32}, {-1, 32}, {65, 32}, {lowest, 32}, {greatest, 32}, {1 << 32, 32}, {1<<32 + 1, 32},
		{1, 0}, {1, -1}, {1, 129}, {1, lowest}, {1, greatest}, {1, 1<<32 + 1},
		{0, 0}, {65, 129},
	} {
		if got, e := Stretch([]byte("password"), []byte("salt"), c.rounds, c.size); got != nil || e != api.ErrArg {
			t.Errorf("%d rounds, %d bytes: %x, %d", c.rounds, c.size, got, e)
		}
	}
}

func TestP2_2Extract(t *testing.T) {
	for _, n := range keySizes {
		salt, secret := sample(n), sample(200-n)
		want, err := hkdf.Extract(sha256.New, secret, salt)
		if err != nil {
			t.Fatal(err)
		}
		if got := Extract(salt, secret); !bytes.Equal(got, want) {
			t.Errorf("a salt of %d bytes: %x", n, got)
		}
	}
	want := reference(make([]byte, 32), []byte("secret"))
	if !bytes.Equal(Extract(nil, []byte("secret")), want) || !bytes.Equal(Extract([]byte{}, []byte("secret")), want) {
		t.Error("an empty salt isn't 32 zero bytes")
	}
	if !bytes.Equal(Extract(nil, nil), reference(make([]byte, 32), nil)) {
		t.Error("an empty secret")
	}
}

func TestP2_2Expand(t *testing.T) {
	for _, n := range keySizes {
		key, info := sample(n), sample(n/2)
		for size := 1; size <= 128; size++ {
			want, err := hkdf.Expand(sha256.New, key, string(info), size)
			if err != nil {
				t.Fatal(err)
			}
			if got, e := Expand(key, info, size); e != api.OK || !bytes.Equal(got, want) {
				t.Fatalf("a key of %d bytes, %d bytes: %x, %d", n, size, got, e)
			}
		}
	}
	for _, size := range []int{0, -1, 129, 1 << 32, 1<<32 + 1, -1 << 63, 1<<63 - 1} {
		if got, e := Expand([]byte("key"), []byte("info"), size); got != nil || e != api.ErrArg {
			t.Errorf("%d bytes: %x, %d", size, got, e)
		}
	}
}

// TestP2_2KnownKeys: the second test case of RFC 5869.
func TestP2_2KnownKeys(t *testing.T) {
	var secret, salt, info []byte
	for i := range 80 {
		secret = append(secret, byte(i))
		salt = append(salt, byte(0x60+i))
		info = append(info, byte(0xb0+i))
	}
	key := Extract(salt, secret)
	if got := hex.EncodeToString(key); got != "06a6b88c5853361a06104c9ceb35b45cef760014904671014a193f40c15fc244" {
		t.Error(got)
	}
	out, e := Expand(key, info, 82)
	if got := hex.EncodeToString(out); e != api.OK || got != "b11e398dc80327a1c8e7f78c596a49344f012eda2d4efad8a050cc4c19afa97c59045a99cac7827271cb41c65e590e09da3275600c2f09b8367793a9aca3db71cc30c58179ec3e87c14c01d5c1f3434f1d87" {
		t.Error(got)
	}
}

func TestP2_2Memory(t *testing.T) {
	a, aUnchanged := spare(t, sample(70))
	b, bUnchanged := spare(t, sample(20))
	calls := []func() []byte{
		func() []byte { p, _ := Stretch(a, b, 3, 40); return p },
		func() []byte { p, _ := Stretch(a, b, 1, 32); return p },
		func() []byte { p, _ := Expand(a, b, 40); return p },
		func() []byte { return Extract(a, b) },
	}
	for i, call := range calls {
		got := call()
		want := slices.Clone(got)
		aUnchanged()
		bUnchanged()
		overwrite(got)
		aUnchanged()
		bUnchanged()
		if !bytes.Equal(call(), want) {
			t.Errorf("call %d shares memory with an earlier result", i)
		}
	}
}

func TestP2_3Equal(t *testing.T) {
	if !Equal(nil, nil) || !Equal(nil, []byte{}) || Equal(nil, []byte{0}) || Equal([]byte{0}, nil) {
		t.Error("empty arguments")
	}
	for n := 1; n < 70; n++ {
		a, b := sample(n), sample(n)
		if !Equal(a, b) || !Equal(a, a) || Equal(a, b[:n-1]) || Equal(a[:n-1], b) || Equal(a, append(slices.Clone(b), 0)) {
			t.Fatalf("arguments of %d bytes", n)
		}
		for i := range b {
			for bit := range 8 {
				b[i] ^= 1 << bit
				if Equal(a, b) || Equal(b, a) {
					t.Fatalf("a difference at %d, bit %d, is overlooked", i, bit)
				}
				b[i] ^= 1 << bit
			}
		}
	}
	if Equal([]byte{1, 2}, []byte{2, 1}) || Equal([]byte{1, 0}, []byte{0, 0}) || Equal([]byte{0x80, 0x80}, []byte{0, 0}) {
		t.Error("differences that cancel out")
	}
}

// TestP2_3EqualSteps: a comparison that ended at the first difference would be some thousand times as fast where that is the first byte. The fastest of many turns is taken, because the machine may have other work.
func TestP2_3EqualSteps(t *testing.T) {
	const size, turns, factor = 1 << 20, 20, 8
	zeros, same, early, late := make([]byte, size), make([]byte, size), make([]byte, size), make([]byte, size)
	early[0], late[size-1] = 1, 1
	best := [3]time.Duration{time.Hour, time.Hour, time.Hour}
	for range turns {
		for i, other := range [3][]byte{same, early, late} {
			from := time.Now()
			equal := Equal(zeros, other)
			best[i] = min(best[i], time.Since(from))
			if equal != (i == 0) {
				t.Fatal("a difference is overlooked, or seen where none is")
			}
		}
	}
	if slices.Max(best[:]) > factor*slices.Min(best[:]) {
		t.Errorf("equal arguments take %v, those that differ in the first byte %v, in the last byte %v", best[0], best[1], best[2])
	}
}

func TestP2_3Xor(t *testing.T) {
	for _, c := range []struct{ a, b, want []byte }{
		{nil, nil, nil},
		{nil, []byte{1}, nil},
		{[]byte{1}, nil, nil},
		{[]byte{0x0f, 0xff, 0x55}, []byte{0xf0, 0xff, 0xaa}, []byte{0xff, 0, 0xff}},
		{[]byte{1, 2, 3}, []byte{1, 3}, []byte{0, 1}},
		{[]byte{1}, []byte{3, 2, 1}, []byte{2}},
	} {
		if got := Xor(c.a, c.b); !bytes.Equal(got, c.want) {
			t.Errorf("%x and %x: %x", c.a, c.b, got)
		}
	}
	a, aUnchanged := spare(t, sample(40))
	b, bUnchanged := spare(t, sample(60))
	got := Xor(a, b)
	for i := range got {
		if got[i] != a[i]^b[i] {
			t.Fatalf("byte %d", i)
		}
	}
	want := slices.Clone(got)
	overwrite(got)
	aUnchanged()
	bUnchanged()
	if !bytes.Equal(Xor(a, b), want) {
		t.Error("a result shares memory with an earlier one")
	}
}
