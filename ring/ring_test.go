package ring_test

import (
	"bytes"
	"crypto/hmac"
	"crypto/sha256"
	"fmt"
	"math"
	"math/rand"
	"slices"
	"testing"

	"ostiary/api"
	"ostiary/box"
	"ostiary/ring"
)

// mac computes a MAC with Go's own library.
func mac(key []byte, text string) []byte {
	h := hmac.New(sha256.New, key)
	h.Write([]byte(text))
	return h.Sum(nil)
}

// keyOf returns what the key of an epoch is in a plain box.
func keyOf(master string, epoch uint64) []byte {
	return mac([]byte(master), fmt.Sprintf("key %d", epoch))
}

// made returns a ring of a box.
func made(t *testing.T, b *box.Box, master string, room int) *ring.Ring {
	t.Helper()
	r, e := ring.New(b, []byte(master), room)
	if r == nil || e != api.OK {
		t.Fatal(master, room, e)
	}
	return r
}

// plain returns a ring of a plain box.
func plain(t *testing.T, master string, room int) *ring.Ring {
	t.Helper()
	return made(t, box.New(false), master, room)
}

// rotate creates so many epochs.
func rotate(t *testing.T, r *ring.Ring, times int) {
	t.Helper()
	last := uint64(0)
	for range times {
		n, e := r.Rotate()
		if e != api.OK || n == 0 || last > 0 && n != last+1 {
			t.Fatal(n, e)
		}
		last = n
	}
}

// retire removes the keys of epochs.
func retire(t *testing.T, r *ring.Ring, epochs ...uint64) {
	t.Helper()
	for _, epoch := range epochs {
		if e := r.Retire(epoch); e != api.OK {
			t.Fatal(epoch, e)
		}
	}
}

// expect checks everything that a ring of a plain box tells about itself. Epochs up to beyond last are asked for.
func expect(t *testing.T, r *ring.Ring, master string, last uint64, want ...uint64) {
	t.Helper()
	if got := slices.Collect(r.Epochs()); !slices.Equal(got, want) || r.Len() != len(want) {
		t.Fatalf("%v (%d), not %v", got, r.Len(), want)
	}
	for epoch := range last + 3 {
		key, e := r.Key(epoch)
		sum := mac(keyOf(master, epoch), "text")
		verified := r.Verify(epoch, sum, []byte("text"))
		if slices.Contains(want, epoch) {
			if e != api.OK || !bytes.Equal(key, keyOf(master, epoch)) || verified != api.OK {
				t.Fatalf("the key of %d: %x %d, verified %d", epoch, key, e, verified)
			}
		} else if len(key) != 0 || e != api.ErrKey || verified != api.ErrKey {
			t.Fatalf("the key of %d: %x %d, verified %d", epoch, key, e, verified)
		}
	}
	n, key, ok := r.Newest()
	m, sum, e := r.Sign([]byte("text"))
	if slices.Contains(want, last) {
		if n != last || !ok || !bytes.Equal(key, keyOf(master, last)) {
			t.Fatalf("newest: %d %x %v", n, key, ok)
		}
		if m != last || e != api.OK || !bytes.Equal(sum, mac(keyOf(master, last), "text")) {
			t.Fatalf("sign: %d %x %d", m, sum, e)
		}
	} else if n != 0 || len(key) != 0 || ok || m != 0 || len(sum) != 0 || e != api.ErrKey {
		t.Fatalf("newest: %d %x %v, sign: %d %x %d", n, key, ok, m, sum, e)
	}
}

func TestP17_1New(t *testing.T) {
	long := string(bytes.Repeat([]byte{0xaa}, 64))
	for _, master := range []string{"m", "master", "\x00", long[:63], long, "key 1"} {
		for room := 1; room <= api.MaxKeys; room++ {
			expect(t, plain(t, master, room), master, 1, 1)
		}
	}
}

func TestP17_1NewErrors(t *testing.T) {
	for _, symbolic := range []bool{false, true} {
		b := box.New(symbolic)
		for _, c := range []struct {
			master []byte
			room   int
		}{
			{nil, 1}, {[]byte{}, 1}, {nil, 0}, {make([]byte, 65), 1}, {make([]byte, 1000), 8}, {make([]byte, 65), 9},
			{[]byte("m"), 0}, {[]byte("m"), -1}, {[]byte("m"), 9}, {[]byte("m"), math.MaxInt}, {[]byte("m"), math.MinInt},
		} {
			if r, e := ring.New(b, c.master, c.room); r != nil || e != api.ErrArg {
				t.Errorf("%d bytes, room %d: %d", len(c.master), c.room, e)
			}
			if r, e := ring.New(nil, c.master, c.room); r != nil || e != api.ErrNone {
				t.Errorf("%d bytes, room %d, no box: %d", len(c.master), c.room, e)
			}
		}
		if r, e := ring.New(nil, []byte("m"), 1); r != nil || e != api.ErrNone {
			t.Error(e)
		}
		if b.Len() != 0 {
			t.Error(b.Len())
		}
	}
}

// The example of the chapter.
func TestP17_1Example(t *testing.T) {
	r := plain(t, "master", 2)
	rotate(t, r, 2)
	expect(t, r, "master", 3, 2, 3)
	if _, e := r.Key(1); e != api.ErrKey {
		t.Error(e)
	}
	retire(t, r, 3)
	if _, _, e := r.Sign(); e != api.ErrKey {
		t.Error(e)
	}
}

// However much room there is, the oldest keys make way.
func TestP17_1Rotate(t *testing.T) {
	for room := 1; room <= api.MaxKeys; room++ {
		r := plain(t, "m", room)
		want := []uint64{1}
		for epoch := uint64(2); epoch <= 25; epoch++ {
			if n, e := r.Rotate(); n != epoch || e != api.OK {
				t.Fatal(n, e)
			}
			want = append(want, epoch)
			want = want[max(0, len(want)-room):]
			expect(t, r, "m", epoch, want...)
		}
	}
}

// A key that was retired leaves room, and its epoch doesn't come again.
func TestP17_1RetireThenRotate(t *testing.T) {
	r := plain(t, "m", 3)
	rotate(t, r, 2)
	retire(t, r, 2)
	expect(t, r, "m", 3, 1, 3)
	rotate(t, r, 1)
	expect(t, r, "m", 4, 1, 3, 4)
	rotate(t, r, 1)
	expect(t, r, "m", 5, 3, 4, 5)
	retire(t, r, 5)
	expect(t, r, "m", 5, 3, 4)
	rotate(t, r, 1)
	expect(t, r, "m", 6, 3, 4, 6)
	retire(t, r, 3, 6, 4)
	expect(t, r, "m", 6)
	rotate(t, r, 1)
	expect(t, r, "m", 7, 7)
	retire(t, r, 7)
	expect(t, r, "m", 7)
	rotate(t, r, 4)
	expect(t, r, "m", 11, 9, 10, 11)
}

func TestP17_1Retire(t *testing.T) {
	for _, gone := range []uint64{1, 2, 3, 4} {
		r := plain(t, "m", 4)
		rotate(t, r, 3)
		for _, none := range []uint64{0, 5, 6, 1 << 32, 1<<32 + 1, math.MaxUint64, 1 << 63} {
			if e := r.Retire(none); e != api.ErrKey {
				t.Error(none, e)
			}
		}
		expect(t, r, "m", 4, 1, 2, 3, 4)
		retire(t, r, gone)
		want := slices.DeleteFunc([]uint64{1, 2, 3, 4}, func(n uint64) bool { return n == gone })
		expect(t, r, "m", 4, want...)
		if e := r.Retire(gone); e != api.ErrKey {
			t.Error(gone, e)
		}
		expect(t, r, "m", 4, want...)
	}
}

// A key that the ring removed itself can't be retired.
func TestP17_1RetireRemoved(t *testing.T) {
	r := plain(t, "m", 1)
	rotate(t, r, 1)
	if e := r.Retire(1); e != api.ErrKey {
		t.Error(e)
	}
	expect(t, r, "m", 2, 2)
}

// sameTerm reports whether a term is the Mac of a key and a text.
func sameTerm(x box.Term, key []byte, text string) bool {
	return x.Kind == box.Mac && bytes.Equal(x.Key, key) && string(x.Text) == text
}

// The keys are computed when their epochs are created, and never again.
func TestP17_1Symbolic(t *testing.T) {
	b := box.New(true)
	r := made(t, b, "master", 2)
	if x, ok := b.Term(1); b.Len() != 1 || !ok || !sameTerm(x, []byte("master"), "key 1") {
		t.Fatal(b.Len(), x)
	}
	b.Hash([]byte("between"))
	for epoch := uint64(2); epoch <= 12; epoch++ {
		rotate(t, r, 1)
		n := int(epoch) + 1
		if x, ok := b.Term(n); b.Len() != n || !ok || !sameTerm(x, []byte("master"), fmt.Sprintf("key %d", epoch)) {
			t.Fatal(b.Len(), x)
		}
		if key, e := r.Key(epoch); e != api.OK || !bytes.Equal(key, box.Handle(n)) {
			t.Fatal(key, e)
		}
		if n, key, ok := r.Newest(); n != epoch || !ok || !bytes.Equal(key, box.Handle(int(epoch)+1)) {
			t.Fatal(n, key, ok)
		}
	}
	size := b.Len()
	r.Newest()
	r.Key(11)
	retire(t, r, 11, 12)
	r.Retire(12)
	r.Sign([]byte("text"))
	r.Verify(12, nil, []byte("text"))
	for range r.Epochs() {
		r.Len()
	}
	if b.Len() != size {
		t.Error("something was computed", b.Len())
	}
}

// In a full box all keys and sums are zero, and that is no error. The keys from before stay.
func TestP17_1FullBox(t *testing.T) {
	b := box.New(true)
	r := made(t, b, "m", 3)
	for i := 0; b.Len() < api.MaxTerms; i++ {
		b.Hash([]byte(fmt.Sprint(i)))
	}
	zero := make([]byte, 32)
	rotate(t, r, 1)
	if key, e := r.Key(2); e != api.OK || !bytes.Equal(key, zero) || !b.Full() {
		t.Error(key, e)
	}
	if key, e := r.Key(1); e != api.OK || !bytes.Equal(key, box.Handle(1)) {
		t.Error(key, e)
	}
	if n, sum, e := r.Sign([]byte("text")); n != 2 || e != api.OK || !bytes.Equal(sum, zero) {
		t.Error(n, sum, e)
	}
	s := made(t, b, "n", 1)
	if n, key, ok := s.Newest(); n != 1 || !ok || !bytes.Equal(key, zero) {
		t.Error(n, key, ok)
	}
}

// The master secret may be overwritten, and it is not changed.
func TestP17_1Memory(t *testing.T) {
	master := []byte("master..")
	r, e := ring.New(box.New(false), master[:6], 3)
	if e != api.OK || string(master) != "master.." {
		t.Fatal(e, master)
	}
	wipe(master)
	rotate(t, r, 2)
	expect(t, r, "master", 3, 1, 2, 3)
}

// wipe overwrites a slice and its spare capacity.
func wipe(p []byte) {
	p = p[:cap(p)]
	for i := range p {
		p[i] = 0xee
	}
}

// What is handed out may be overwritten.
func TestP17_2Memory(t *testing.T) {
	for range 2 {
		r := plain(t, "m", 3)
		rotate(t, r, 1)
		for range 2 {
			_, newest, _ := r.Newest()
			key, _ := r.Key(1)
			same, _ := r.Key(2)
			_, sum, _ := r.Sign([]byte("text"))
			_, again, _ := r.Sign([]byte("text"))
			wipe(newest)
			if !bytes.Equal(same, keyOf("m", 2)) {
				t.Fatal("two results share memory")
			}
			wipe(sum)
			if !bytes.Equal(again, mac(keyOf("m", 2), "text")) {
				t.Fatal("two results share memory")
			}
			wipe(key)
			wipe(same)
			wipe(again)
			expect(t, r, "m", 2, 1, 2)
		}
	}
	// Nor is anything written into an argument.
	r := plain(t, "m", 3)
	text := []byte("some text")
	parts := [][]byte{text[:4], text[5:6], nil}
	_, sum, e := r.Sign(parts...)
	longer := append(sum, "...."...)
	if errno := r.Verify(1, longer[:32], parts[:2]...); e != api.OK || errno != api.OK {
		t.Error(e, errno)
	}
	if string(text) != "some text" || string(longer[32:]) != "...." || string(parts[0]) != "some" || string(parts[1]) != "t" || parts[2] != nil {
		t.Error(text, longer, parts)
	}
}

func TestP17_2Sign(t *testing.T) {
	r := plain(t, "m", 2)
	rotate(t, r, 4)
	want := mac(keyOf("m", 5), "a text")
	for _, parts := range [][][]byte{
		{[]byte("a text")}, {[]byte("a"), []byte(" text")}, {nil, []byte("a text"), {}}, {[]byte("a"), nil, []byte(" "), []byte("text")},
	} {
		if n, sum, e := r.Sign(parts...); n != 5 || e != api.OK || !bytes.Equal(sum, want) {
			t.Errorf("%q: %d %x %d", parts, n, sum, e)
		}
		if e := r.Verify(5, want, parts...); e != api.OK {
			t.Errorf("%q: %d", parts, e)
		}
	}
	empty := mac(keyOf("m", 5), "")
	for _, parts := range [][][]byte{nil, {}, {nil}, {{}, nil}} {
		if n, sum, e := r.Sign(parts...); n != 5 || e != api.OK || !bytes.Equal(sum, empty) {
			t.Errorf("%q: %d %x %d", parts, n, sum, e)
		}
		if e := r.Verify(5, empty, parts...); e != api.OK {
			t.Errorf("%q: %d", parts, e)
		}
	}
	long := bytes.Repeat([]byte("long"), 5000)
	if n, sum, e := r.Sign(long); n != 5 || e != api.OK || !bytes.Equal(sum, mac(keyOf("m", 5), string(long))) || r.Verify(5, sum, long[:1], long[1:]) != api.OK {
		t.Error(n, sum, e)
	}
}

func TestP17_2Verify(t *testing.T) {
	r := plain(t, "m", 3)
	rotate(t, r, 3)
	retire(t, r, 3)
	text := []byte("text")
	for _, epoch := range []uint64{2, 4} {
		sum := mac(keyOf("m", epoch), "text")
		if e := r.Verify(epoch, sum, text); e != api.OK {
			t.Error(epoch, e)
		}
		// Any other bit of the sum, any other length, any other text, and the sums of other epochs.
		for i := range 256 {
			bad := slices.Clone(sum)
			bad[i/8] ^= 1 << (i % 8)
			if e := r.Verify(epoch, bad, text); e != api.ErrProof {
				t.Fatal(epoch, i, e)
			}
		}
		for size := range 32 {
			for _, bad := range [][]byte{sum[:size], sum[size+1:], append(slices.Clone(sum), make([]byte, size+1)...), append(slices.Clone(sum), sum[:size+1]...)} {
				if e := r.Verify(epoch, bad, text); e != api.ErrProof {
					t.Fatal(epoch, bad, e)
				}
			}
		}
		for _, bad := range []string{"", "tex", "Text", "text ", "texttext", "text\x00", "\x00text"} {
			if e := r.Verify(epoch, sum, []byte(bad)); e != api.ErrProof {
				t.Error(epoch, bad, e)
			}
		}
		for _, bad := range [][]byte{nil, make([]byte, 32), keyOf("m", epoch), mac(keyOf("m", epoch^6), "text"), mac(keyOf("n", epoch), "text"), mac([]byte("m"), "text")} {
			if e := r.Verify(epoch, bad, text); e != api.ErrProof {
				t.Error(epoch, bad, e)
			}
		}
	}
	// Epochs that are not there, whether or not the sum would be right.
	for _, epoch := range []uint64{0, 1, 3, 5, 1 << 32, 1<<32 + 2, math.MaxUint64} {
		for _, sum := range [][]byte{mac(keyOf("m", epoch), "text"), nil, make([]byte, 32), mac(keyOf("m", 4), "text")} {
			if e := r.Verify(epoch, sum, text); e != api.ErrKey {
				t.Error(epoch, e)
			}
		}
		if key, e := r.Key(epoch); len(key) != 0 || e != api.ErrKey {
			t.Error(epoch, e)
		}
	}
	expect(t, r, "m", 4, 2, 4)
}

// A sum is verified after rotations, as long as its key is there.
func TestP17_2VerifyLater(t *testing.T) {
	r := plain(t, "m", 3)
	n, sum, _ := r.Sign([]byte("text"))
	for range 2 {
		rotate(t, r, 1)
		if e := r.Verify(n, sum, []byte("text")); n != 1 || e != api.OK {
			t.Error(n, e)
		}
	}
	rotate(t, r, 1)
	if e := r.Verify(n, sum, []byte("text")); e != api.ErrKey {
		t.Error(e)
	}
}

// What a symbolic box computes for Sign and Verify stands in its terms.
func TestP17_2Symbolic(t *testing.T) {
	b := box.New(true)
	r := made(t, b, "master", 2)
	rotate(t, r, 1)
	n, sum, e := r.Sign([]byte("te"), []byte("xt"))
	if n != 2 || e != api.OK || !bytes.Equal(sum, box.Handle(3)) {
		t.Fatal(n, sum, e)
	}
	if x, ok := b.Term(3); b.Len() != 3 || !ok || !sameTerm(x, box.Handle(2), "text") {
		t.Fatal(b.Len(), x)
	}
	if e := r.Verify(2, sum, []byte("text")); e != api.OK || b.Len() != 3 {
		t.Error(e, b.Len())
	}
	if e := r.Verify(1, sum, []byte("text")); e != api.ErrProof {
		t.Error(e)
	}
	if x, ok := b.Term(4); b.Len() != 4 || !ok || !sameTerm(x, box.Handle(1), "text") {
		t.Fatal(b.Len(), x)
	}
	if e := r.Verify(1, box.Handle(4), []byte("text")); e != api.OK {
		t.Error(e)
	}
	if e := r.Verify(2, box.Handle(4), []byte("text")); e != api.ErrProof {
		t.Error(e)
	}
	if e := r.Verify(3, box.Handle(5), []byte("text")); e != api.ErrKey || b.Len() != 4 {
		t.Error(e, b.Len())
	}
}

// Rings of one box or of one master secret don't disturb each other.
func TestP17_2TwoRings(t *testing.T) {
	b := box.New(false)
	x, y, z := made(t, b, "m", 2), made(t, b, "m", 2), made(t, b, "n", 2)
	rotate(t, x, 2)
	retire(t, x, 2)
	rotate(t, z, 1)
	expect(t, x, "m", 3, 3)
	expect(t, y, "m", 1, 1)
	expect(t, z, "n", 2, 1, 2)
	_, sum, _ := x.Sign([]byte("text"))
	if e := y.Verify(1, sum, []byte("text")); e != api.ErrProof {
		t.Error(e)
	}
	rotate(t, y, 2)
	if e := y.Verify(3, sum, []byte("text")); e != api.OK {
		t.Error(e)
	}
}

func TestP17_2Epochs(t *testing.T) {
	r := plain(t, "m", 4)
	all := r.Epochs()
	rotate(t, r, 5)
	retire(t, r, 4)
	for stop := 1; stop <= 3; stop++ {
		var got []uint64
		for n := range all {
			got = append(got, n)
			if len(got) == stop {
				break
			}
		}
		if want := []uint64{3, 5, 6}[:stop]; !slices.Equal(got, want) {
			t.Fatal(got)
		}
	}
	expect(t, r, "m", 6, 3, 5, 6)
	// Keys may be retired while they are ranged over.
	for n := range all {
		retire(t, r, n)
		if slices.Contains(slices.Collect(all), n) {
			t.Error(n)
		}
	}
	rotate(t, r, 2)
	if got := slices.Collect(all); !slices.Contains(got, 7) || !slices.Contains(got, 8) {
		t.Error(got)
	}
}

// Random calls are compared with a list of epochs.
func TestP17_2Random(t *testing.T) {
	rnd := rand.New(rand.NewSource(17))
	for range 300 {
		room := 1 + rnd.Intn(api.MaxKeys)
		r := plain(t, "m", room)
		last, keys := uint64(1), []uint64{1}
		for range 40 {
			if rnd.Intn(2) == 0 {
				last++
				keys = append(keys, last)
				if len(keys) > room {
					keys = keys[1:]
				}
				if n, e := r.Rotate(); n != last || e != api.OK {
					t.Fatal(n, e)
				}
			} else {
				epoch := uint64(rnd.Intn(int(last) + 2))
				want := api.ErrKey
				if i := slices.Index(keys, epoch); i >= 0 {
					keys = slices.Concat(keys[:i], keys[i+1:])
					want = api.OK
				}
				if e := r.Retire(epoch); e != want {
					t.Fatal(epoch, e)
				}
			}
		}
		expect(t, r, "m", last, keys...)
	}
}

func TestP17_2NilRing(t *testing.T) {
	var r *ring.Ring
	if n, e := r.Rotate(); n != 0 || e != api.ErrNone {
		t.Error(n, e)
	}
	for _, epoch := range []uint64{0, 1, math.MaxUint64} {
		if e := r.Retire(epoch); e != api.ErrNone {
			t.Error(e)
		}
		if key, e := r.Key(epoch); len(key) != 0 || e != api.ErrNone {
			t.Error(key, e)
		}
		if e := r.Verify(epoch, make([]byte, 32), []byte("text")); e != api.ErrNone {
			t.Error(e)
		}
		if e := r.Verify(epoch, nil); e != api.ErrNone {
			t.Error(e)
		}
	}
	if n, key, ok := r.Newest(); n != 0 || len(key) != 0 || ok {
		t.Error(n, key, ok)
	}
	for _, parts := range [][][]byte{nil, {[]byte("text")}} {
		if n, sum, e := r.Sign(parts...); n != 0 || len(sum) != 0 || e != api.ErrNone {
			t.Error(n, sum, e)
		}
	}
	all := r.Epochs()
	if all == nil || len(slices.Collect(all)) != 0 || r.Len() != 0 {
		t.Error("a nil ring has keys")
	}
}
