package proof_test

import (
	"bytes"
	"crypto/hmac"
	"crypto/pbkdf2"
	"crypto/sha256"
	"encoding/hex"
	"fmt"
	"math"
	"math/rand"
	"reflect"
	"slices"
	"strings"
	"testing"
	"time"

	"ostiary/api"
	"ostiary/box"
	"ostiary/cred"
	"ostiary/digest"
	"ostiary/proof"
)

// hash and mac compute with Go's own library.
func hash(text string) []byte {
	sum := sha256.Sum256([]byte(text))
	return sum[:]
}

func mac(key []byte, text string) []byte {
	h := hmac.New(sha256.New, key)
	h.Write([]byte(text))
	return h.Sum(nil)
}

// scram computes Stored, Server, the proof and the verdict with Go's own library, from a password that is prepared.
func scram(t *testing.T, pass string, salt []byte, rounds int, message string) (stored, server, sent, verdict []byte) {
	t.Helper()
	salted, err := pbkdf2.Key(sha256.New, pass, salt, rounds, 32)
	if err != nil {
		t.Fatal(err)
	}
	key := mac(salted, "Client Key")
	stored, server = hash(string(key)), mac(salted, "Server Key")
	sent = mac(stored, message)
	for i := range sent {
		sent[i] ^= key[i]
	}
	return stored, server, sent, mac(server, message)
}

// secretOf makes the secret of a password with a box.
func secretOf(t *testing.T, b *box.Box, pass string, salt []byte, rounds int) cred.Secret {
	t.Helper()
	x, e := cred.Make(b, "t", "ann", pass, salt, rounds)
	if e != api.OK {
		t.Fatal(e)
	}
	return x
}

// prove makes the proof and the verdict of a password with a box.
func prove(t *testing.T, b *box.Box, pass string, salt []byte, rounds int, message string) ([]byte, []byte) {
	t.Helper()
	sent, verdict, e := proof.Client(b, pass, salt, rounds, message)
	if e != api.OK {
		t.Fatal(e)
	}
	return sent, verdict
}

// sameTerms checks all terms of a box from number first on.
func sameTerms(t *testing.T, b *box.Box, first int, want ...box.Term) {
	t.Helper()
	if b.Len() != first-1+len(want) {
		t.Fatalf("%d terms, not %d", b.Len(), first-1+len(want))
	}
	for i, w := range want {
		got, ok := b.Term(first + i)
		if !ok || got.Kind != w.Kind || !bytes.Equal(got.Key, w.Key) || !bytes.Equal(got.Text, w.Text) || got.Rounds != w.Rounds || !slices.Equal(got.List, w.List) {
			t.Errorf("term %d is %v, not %v", first+i, got, w)
		}
	}
}

// Terms as they stand in a symbolic box.
func hashed(text string) box.Term { return box.Term{Kind: box.Hash, Text: []byte(text)} }

func signed(key int, text string) box.Term {
	return box.Term{Kind: box.Mac, Key: box.Handle(key), Text: []byte(text)}
}

func turned(list ...int) box.Term { return box.Term{Kind: box.Turn, List: list} }

// handle returns a handle as a string.
func handle(n int) string { return string(box.Handle(n)) }

// wipe overwrites a slice and its spare capacity.
func wipe(p []byte) {
	p = p[:cap(p)]
	for i := range p {
		p[i] ^= 0xff
	}
}

func TestP19_1Message(t *testing.T) {
	for _, c := range [][4]string{
		{"", "", "", ",,"}, {"a", "b", "c", "a,b,c"}, {"a,b", "", "c,", "a,b,,c,"}, {"\xff", "ü", "\x00", "\xff,ü,\x00"},
		{"n=user,r=abc", "r=abcd,s=AQ==,i=4", "c=biws,r=abcd", "n=user,r=abc,r=abcd,s=AQ==,i=4,c=biws,r=abcd"},
		{strings.Repeat("x", 4096), "y", "z", strings.Repeat("x", 4096) + ",y,z"},
	} {
		if got := proof.Message(c[0], c[1], c[2]); got != c[3] {
			t.Errorf("%q: %q", c, got)
		}
	}
}

// clients are passwords, what they are when prepared, salts, rounds and messages.
var clients = []struct {
	pass, prepared string
	salt           string
	rounds         int
	message        string
}{
	{"pencil", "pencil", "\x01\x02", 4, "n=user,r=abc,r=abcd,s=AQI=,i=4,c=biws,r=abcd"},
	{"pencil", "pencil", "s", 1, ""},
	{"pen\u00adcil", "pencil", "s", 2, "m"},
	{"a\u00a0b\u3000", "a b ", "\x00", 63, "\x00\xff,"},
	{strings.Repeat("p", 64), strings.Repeat("p", 64), strings.Repeat("s", 32), 64, strings.Repeat("m", 5000)},
	{strings.Repeat("p\ufeff", 64), strings.Repeat("p", 64), strings.Repeat("\xff", 31), 64, "m"},
	{"Ä😀,=", "Ä😀,=", "salt", 3, "ü"},
}

func TestP19_1Client(t *testing.T) {
	for _, c := range clients {
		stored, server, sent, verdict := scram(t, c.prepared, []byte(c.salt), c.rounds, c.message)
		p, v, e := proof.Client(box.New(false), c.pass, []byte(c.salt), c.rounds, c.message)
		if e != api.OK || !bytes.Equal(p, sent) || !bytes.Equal(v, verdict) {
			t.Errorf("%q: %x %x %d, not %x %x", c.pass, p, v, e, sent, verdict)
		}
		x := cred.Secret{Stored: stored, Server: server}
		if e := proof.Check(box.New(false), x, c.message, sent); e != api.OK {
			t.Errorf("%q: %d", c.pass, e)
		}
		if got := proof.Server(box.New(false), x, c.message); !bytes.Equal(got, verdict) {
			t.Errorf("%q: %x", c.pass, got)
		}
	}
}

// What a symbolic box has computed stands in its terms, in the order of the chapter.
func TestP19_1ClientSymbolic(t *testing.T) {
	b := box.New(true)
	p, v := prove(t, b, "p\u00adw", []byte("salt"), 9, "message")
	sameTerms(t, b, 1,
		box.Term{Kind: box.Stretch, Key: []byte("pw"), Text: []byte("salt"), Rounds: 9},
		signed(1, "Client Key"), hashed(handle(2)), signed(1, "Server Key"), signed(3, "message"), turned(2, 5), signed(4, "message"),
	)
	if string(p) != handle(6) || string(v) != handle(7) {
		t.Errorf("%x %x", p, v)
	}
	prove(t, b, "pw", []byte("salt"), 9, "message")
	sameTerms(t, b, 8)
	prove(t, b, "pw", []byte("salt"), 9, "another")
	sameTerms(t, b, 8, signed(3, "another"), turned(2, 8), signed(4, "another"))
}

// Of several errors the first one in the order of the chapter counts, and nothing is computed.
func TestP19_1ClientErrors(t *testing.T) {
	for _, symbolic := range []bool{false, true} {
		b := box.New(symbolic)
		fails := func(b *box.Box, pass string, salt []byte, rounds int, want api.Errno) {
			t.Helper()
			if p, v, e := proof.Client(b, pass, salt, rounds, "m"); len(p) != 0 || len(v) != 0 || e != want {
				t.Errorf("%q, %d bytes, %d rounds: %x %x %d, not %d", pass, len(salt), rounds, p, v, e, want)
			}
		}
		good := []byte("s")
		for _, c := range []struct {
			pass string
			want api.Errno
		}{
			{"", api.ErrShort}, {"\u00ad", api.ErrShort}, {strings.Repeat("p", 65), api.ErrLong}, {strings.Repeat("ü", 33), api.ErrLong},
			{"\xff", api.ErrForm}, {"\x00\xff", api.ErrForm}, {"a\x00", api.ErrSign}, {"\ufffd", api.ErrSign}, {strings.Repeat("\n", 65), api.ErrSign},
		} {
			fails(b, c.pass, good, 1, c.want)
			fails(b, c.pass, nil, 1, c.want)
			fails(b, c.pass, good, 0, c.want)
			fails(nil, c.pass, good, 1, api.ErrNone)
		}
		for _, salt := range [][]byte{nil, {}, make([]byte, 33), make([]byte, 1000)} {
			fails(b, "p", salt, 1, api.ErrArg)
			fails(b, "p", salt, 0, api.ErrArg)
			fails(nil, "p", salt, 1, api.ErrNone)
		}
		for _, rounds := range []int{0, -1, 65, math.MaxInt, math.MinInt, 1 << 32} {
			fails(b, "p", good, rounds, api.ErrArg)
			fails(b, "p", make([]byte, 32), rounds, api.ErrArg)
			fails(nil, "p", good, rounds, api.ErrNone)
		}
		fails(nil, "p", good, 1, api.ErrNone)
		if b.Len() != 0 {
			t.Error(b.Len())
		}
	}
}

// The verdict depends on Server and the message alone.
func TestP19_1Server(t *testing.T) {
	for _, key := range []string{"", "k", strings.Repeat("k", 32), strings.Repeat("k", 100)} {
		for _, message := range []string{"", "m", strings.Repeat("m", 300)} {
			want := mac([]byte(key), message)
			for _, x := range []cred.Secret{
				{Server: []byte(key)}, {Salt: []byte("s"), Iter: 5, Stored: []byte("stored"), Server: []byte(key), HA1: []byte("ha1")},
			} {
				if got := proof.Server(box.New(false), x, message); !bytes.Equal(got, want) {
					t.Errorf("%q %q: %x", key, message, got)
				}
			}
			b := box.New(true)
			if got := proof.Server(b, cred.Secret{Server: []byte(key)}, message); string(got) != handle(1) {
				t.Errorf("%x", got)
			}
			sameTerms(t, b, 1, box.Term{Kind: box.Mac, Key: []byte(key), Text: []byte(message)})
		}
	}
}

func TestP19_1Check(t *testing.T) {
	b := box.New(false)
	salt := []byte("salt")
	x := secretOf(t, b, "pencil", salt, 3)
	_, _, sent, _ := scram(t, "pencil", salt, 3, "m")
	check := func(x cred.Secret, message string, p []byte, want api.Errno) {
		t.Helper()
		if e := proof.Check(b, x, message, p); e != want {
			t.Errorf("%q %x: %d, not %d", message, p, e, want)
		}
	}
	check(x, "m", sent, api.OK)
	check(cred.Secret{Stored: x.Stored}, "m", sent, api.OK) // nothing else is needed
	for i := range 256 {
		bad := slices.Clone(sent)
		bad[i/8] ^= 1 << (i % 8)
		check(x, "m", bad, api.ErrProof)
		other := x
		other.Stored = slices.Clone(x.Stored)
		other.Stored[i/8] ^= 1 << (i % 8)
		check(other, "m", sent, api.ErrProof)
	}
	for _, message := range []string{"", "M", "mm", "m ", "\x00m", "n"} {
		check(x, message, sent, api.ErrProof)
	}
	for size := range 70 {
		if size != 32 {
			check(x, "m", bytes.Repeat(sent, 3)[:size], api.ErrForm)
			check(cred.Secret{}, "m", make([]byte, size), api.ErrForm)
		}
	}
	for _, stored := range [][]byte{nil, {}, x.Stored[:31], append(slices.Clone(x.Stored), 0)} {
		other := x
		other.Stored = stored
		check(other, "m", sent, api.ErrProof)
	}
	for _, c := range []struct {
		pass, salt string
		rounds     int
	}{{"Pencil", "salt", 3}, {"pencil ", "salt", 3}, {"pencil", "Salt", 3}, {"pencil", "salt", 2}, {"pencil", "salt", 4}} {
		_, _, bad, _ := scram(t, c.pass, []byte(c.salt), c.rounds, "m")
		check(x, "m", bad, api.ErrProof)
	}
	// What is known without the password is no proof.
	for _, bad := range [][]byte{x.Stored, x.Server, x.HA1, make([]byte, 32), mac(x.Stored, "m"), hash("m")} {
		check(x, "m", bad, api.ErrProof)
	}
	check(x, "m", box.Handle(1), api.ErrProof) // which is nothing special in a plain box
}

// In a symbolic box the Mac, the turned proof, and its Hash are computed in this order.
func TestP19_1CheckSymbolic(t *testing.T) {
	b := box.New(true)
	x := secretOf(t, b, "pw", []byte("s"), 1) // terms 1 to 5: 2 is the client key, 3 is Stored
	sent, err := b.Turn(box.Handle(2), b.Mac(x.Stored, []byte("m")))
	if err != api.OK || string(sent) != handle(7) {
		t.Fatal(err, sent)
	}
	if e := proof.Check(b, x, "m", sent); e != api.OK {
		t.Error(e)
	}
	sameTerms(t, b, 8)
	if e := proof.Check(b, x, "n", sent); e != api.ErrProof {
		t.Error(e)
	}
	sameTerms(t, b, 8, signed(3, "n"), turned(2, 6, 8), hashed(handle(9)))
	mask := bytes.Repeat([]byte{7}, 32)
	if e := proof.Check(b, x, "o", mask); e != api.ErrProof {
		t.Error(e)
	}
	sameTerms(t, b, 11, signed(3, "o"), turned(11), hashed(handle(12)))
	if term, ok := b.Term(12); !ok || !bytes.Equal(term.Mask, mask) {
		t.Error(term)
	}
	for n := 1; n <= 13; n++ {
		want := api.ErrProof
		if n == 7 {
			want = api.OK
		}
		if e := proof.Check(b, x, "m", box.Handle(n)); e != want {
			t.Error(n, e)
		}
	}
}

// A proof that can't be turned leaves nothing in the box.
func TestP19_1CheckForm(t *testing.T) {
	for _, symbolic := range []bool{false, true} {
		b := box.New(symbolic)
		x := secretOf(t, b, "pw", []byte("s"), 1)
		terms := b.Len()
		bad := [][]byte{nil, {}, make([]byte, 31), make([]byte, 33), box.Handle(1)[:31], append(box.Handle(1), 0)}
		if symbolic {
			bad = append(bad, box.Handle(0), box.Handle(terms+1), box.Handle(terms+2), box.Handle(1000), box.Handle(-1))
		}
		for _, p := range bad {
			if e := proof.Check(b, x, "m", p); e != api.ErrForm {
				t.Errorf("%x: %d", p, e)
			}
			if e := proof.Check(b, cred.Secret{}, "", p); e != api.ErrForm {
				t.Errorf("%x: %d", p, e)
			}
			if b.Len() != terms {
				t.Fatal(b.Len())
			}
		}
	}
}

// In a full box all tags are zero, and that is no error.
func TestP19_1FullBox(t *testing.T) {
	b := box.New(true)
	for i := 0; !b.Full(); i++ {
		b.Hash([]byte(fmt.Sprint("filler ", i)))
	}
	zero := make([]byte, 32)
	if p, v := prove(t, b, "pw", []byte("s"), 1, "m"); !bytes.Equal(p, zero) || !bytes.Equal(v, zero) {
		t.Errorf("%x %x", p, v)
	}
	if p := proof.Response(b, proof.HA1(b, "u", "r", "p"), "GET", digest.Answer{}); !bytes.Equal(p, zero) || b.Len() != api.MaxTerms {
		t.Errorf("%x", p)
	}
}

func TestP19_1Memory(t *testing.T) {
	for _, symbolic := range []bool{false, true} {
		for range 2 {
			b := box.New(symbolic)
			all := []byte("salt....")
			salt := all[:4]
			wantProof, wantVerdict := prove(t, box.New(symbolic), "pw", []byte("salt"), 2, "m")
			p, v := prove(t, b, "pw", salt, 2, "m")
			q, w := prove(t, b, "pw", salt, 2, "m")
			if string(all) != "salt...." {
				t.Fatalf("%q", all)
			}
			wipe(all)
			wipe(p)
			if !bytes.Equal(v, wantVerdict) || !bytes.Equal(q, wantProof) || !bytes.Equal(w, wantVerdict) {
				t.Fatal("two results share memory")
			}
			wipe(v)
			wipe(w)
			x := secretOf(t, b, "pw", []byte("salt"), 2)
			kept := secretOf(t, b, "pw", []byte("salt"), 2)
			longer := append(slices.Clone(q), "...."...)
			if e := proof.Check(b, x, "m", longer[:32]); e != api.OK || string(longer) != string(q)+"...." || !reflect.DeepEqual(x, kept) {
				t.Fatal(e, longer, x)
			}
			wipe(q)
			one, two := proof.Server(b, x, "m"), proof.Server(b, x, "m")
			wipe(one)
			if !bytes.Equal(two, wantVerdict) || !reflect.DeepEqual(x, kept) {
				t.Fatal("a verdict shares memory")
			}
			wipe(two)
		}
	}
}

func TestP19_2HA1(t *testing.T) {
	for _, c := range [][3]string{
		{"", "", ""}, {"a", "b", "c"}, {"Mufasa", "http-auth@example.org", "Circle of Life"}, {"a:b", ":", "c:"}, {"\xff", "\x00", "ü"}, {"a\u00adb", "T", strings.Repeat("p", 500)},
	} {
		text := c[0] + ":" + c[1] + ":" + c[2]
		if got := proof.HA1(box.New(false), c[0], c[1], c[2]); !bytes.Equal(got, hash(text)) {
			t.Errorf("%q: %x", c, got)
		}
		b := box.New(true)
		if got := proof.HA1(b, c[0], c[1], c[2]); string(got) != handle(1) {
			t.Errorf("%q: %x", c, got)
		}
		sameTerms(t, b, 1, hashed(text))
	}
	// That of a secret is the same.
	b := box.New(false)
	if x := secretOf(t, b, "pw", []byte("s"), 1); !bytes.Equal(x.HA1, proof.HA1(b, "ann", "t", "pw")) {
		t.Errorf("%x", x.HA1)
	}
}

// The example of the chapter, which is that of RFC 7616.
func TestP19_2Example(t *testing.T) {
	b := box.New(false)
	a := digest.Answer{URI: "/dir/index.html", Nonce: "7ypf/xlj9XXwfDPEoM4URrv/xwf94BcCAzFZH4GiTo0v", NC: 1, Cnonce: "f2/wE4q74E6zIJEtWaHKaf5wv/H5QzzpXusqGemxURZJ"}
	got := hex.EncodeToString(proof.Response(b, proof.HA1(b, "Mufasa", "http-auth@example.org", "Circle of Life"), "GET", a))
	if got != "753927fa0e85d155564e2e272a28d1802ca10daf4496794697cf8db5856cb6c1" {
		t.Error(got)
	}
}

// response computes a response with Go's own library.
func response(ha1 []byte, method string, a digest.Answer) []byte {
	return hash(fmt.Sprintf("%x:%s:%08x:%s:auth:%x", ha1, a.Nonce, a.NC, a.Cnonce, hash(method+":"+a.URI)))
}

func TestP19_2Response(t *testing.T) {
	b := box.New(false)
	for _, a := range []digest.Answer{
		{}, {URI: "/u", Nonce: "n", Cnonce: "c", NC: 1}, {URI: "a.b:80", Nonce: "n:n", Cnonce: "c:c", NC: 0xabcdef01}, {URI: ":", Nonce: ":", Cnonce: ":", NC: math.MaxUint32}, {URI: "\xff", Nonce: "ü", Cnonce: "\x00", NC: 16},
	} {
		for _, ha1 := range [][]byte{nil, {}, {0xab}, hash("ha1"), bytes.Repeat([]byte{0xfe}, 100)} {
			for _, method := range []string{"", "GET", "CONNECT", "a:b"} {
				want := response(ha1, method, a)
				if got := proof.Response(b, ha1, method, a); !bytes.Equal(got, want) {
					t.Errorf("%x %q %v: %x", ha1, method, a, got)
				}
				// Nothing else of an answer counts.
				more := a
				more.User, more.Realm, more.Opaque, more.Proof = "u", "r", "o", []byte("p")
				if got := proof.Response(b, ha1, method, more); !bytes.Equal(got, want) {
					t.Errorf("%x %q %v: %x", ha1, method, more, got)
				}
			}
		}
	}
}

// In a symbolic box HA2 is computed first.
func TestP19_2ResponseSymbolic(t *testing.T) {
	b := box.New(true)
	ha1 := proof.HA1(b, "ann", "t", "pw")
	a := digest.Answer{URI: "h:1", Nonce: "n", Cnonce: "c", NC: 10}
	if got := proof.Response(b, ha1, "CONNECT", a); string(got) != handle(3) {
		t.Errorf("%x", got)
	}
	sameTerms(t, b, 2, hashed("CONNECT:h:1"), hashed(fmt.Sprintf("%x:n:0000000a:c:auth:%x", handle(1), handle(2))))
	if got := proof.Response(b, ha1, "CONNECT", a); string(got) != handle(3) || b.Len() != 3 {
		t.Errorf("%x %d", got, b.Len())
	}
}

func TestP19_2Memory(t *testing.T) {
	for _, symbolic := range []bool{false, true} {
		b := box.New(symbolic)
		ha1, same := proof.HA1(b, "u", "r", "p"), proof.HA1(b, "u", "r", "p")
		longer := append(slices.Clone(ha1), "...."...)
		a := digest.Answer{URI: "u", Nonce: "n", Cnonce: "c", NC: 1, Proof: []byte("proof")}
		one, two := proof.Response(b, longer[:32], "GET", a), proof.Response(b, ha1, "GET", a)
		if string(longer) != string(ha1)+"...." || !bytes.Equal(ha1, same) || string(a.Proof) != "proof" {
			t.Fatal("an argument was changed")
		}
		want := slices.Clone(two)
		wipe(longer)
		wipe(one)
		if !bytes.Equal(two, want) {
			t.Fatal("two results share memory")
		}
		wipe(two)
		wipe(ha1)
		if again := proof.HA1(b, "u", "r", "p"); !bytes.Equal(again, same) || !bytes.Equal(proof.Response(b, same, "GET", a), want) {
			t.Fatal("a result shares memory with an earlier one")
		}
	}
}

func TestP19_2Equal(t *testing.T) {
	for _, c := range []struct {
		x, y []byte
		want bool
	}{
		{nil, nil, true}, {nil, []byte{}, true}, {[]byte{}, nil, true}, {nil, []byte{0}, false}, {[]byte{0}, nil, false}, {[]byte{0}, []byte{0}, true}, {[]byte{0}, []byte{0, 0}, false},
		{[]byte{1, 2}, []byte{2, 1}, false}, {[]byte{1, 0}, []byte{0, 1}, false}, {[]byte{0x80, 0x80}, []byte{0, 0}, false},
	} {
		if proof.Equal(c.x, c.y) != c.want {
			t.Errorf("%x %x", c.x, c.y)
		}
	}
	for size := 1; size < 70; size++ {
		x, y := hash("x"), hash("x")
		x, y = bytes.Repeat(x, 3)[:size], bytes.Repeat(y, 3)[:size]
		if !proof.Equal(x, y) || !proof.Equal(x, x) || proof.Equal(x, y[:size-1]) || proof.Equal(x[:size-1], y) {
			t.Fatal(size)
		}
		for i := range 8 * size {
			y[i/8] ^= 1 << (i % 8)
			if proof.Equal(x, y) || proof.Equal(y, x) {
				t.Fatal(size, i)
			}
			y[i/8] ^= 1 << (i % 8)
		}
	}
}

// A comparison that ended at the first difference would be some thousand times as fast where that is the first byte. The fastest of many turns is taken, because the machine may have other work.
func TestP19_2EqualSteps(t *testing.T) {
	const size, turns, factor = 1 << 20, 20, 8
	zeros, same, early, late := make([]byte, size), make([]byte, size), make([]byte, size), make([]byte, size)
	early[0], late[size-1] = 1, 1
	best := [3]time.Duration{time.Hour, time.Hour, time.Hour}
	for range turns {
		for i, other := range [3][]byte{same, early, late} {
			from := time.Now()
			equal := proof.Equal(zeros, other)
			best[i] = min(best[i], time.Since(from))
			if equal != (i == 0) {
				t.Fatal("a difference is overlooked, or seen where none is")
			}
		}
	}
	if slices.Max(best[:]) > factor*slices.Min(best[:]) {
		t.Errorf("equal arguments take %v, those that differ in the first byte %v, in the last byte %v", best[0], best[1], best[2])
	}
}

// names are tenants and users of whom nobody knows, valid or not.
var names = [][2]string{{"t", "eve"}, {"", ""}, {"t", "a b"}, {"t u", "v"}, {"t", "u v"}, {"\xff", "\x00"}, {"t", strings.Repeat("u", 500)}, {"t", "a\u00adnn"}}

func TestP19_2Dummy(t *testing.T) {
	for _, c := range names {
		whose := " " + c[0] + " " + c[1]
		for rounds := -2; rounds <= 67; rounds++ {
			want := cred.Secret{Salt: hash("salt" + whose)[:16], Iter: rounds, Stored: hash("stored" + whose), Server: hash("server" + whose), HA1: hash("ha1" + whose)}
			if rounds < 1 || rounds > 64 {
				want.Iter = 1
			}
			if x := proof.Dummy(box.New(false), c[0], c[1], rounds); !reflect.DeepEqual(x, want) {
				t.Errorf("%q %d: %v, not %v", c, rounds, x, want)
			}
		}
		for _, rounds := range []int{math.MaxInt, math.MinInt, 1 << 32, 1<<32 + 1} {
			if x := proof.Dummy(box.New(false), c[0], c[1], rounds); x.Iter != 1 {
				t.Errorf("%d: %d", rounds, x.Iter)
			}
		}
	}
}

// All parts are the same whatever the box is, and whatever it holds. None of them is computed by the box.
func TestP19_2DummySymbolic(t *testing.T) {
	for _, c := range names {
		whose := " " + c[0] + " " + c[1]
		want := cred.Secret{Salt: hash("salt" + whose)[:16], Iter: 7, Stored: hash("stored" + whose), Server: hash("server" + whose), HA1: hash("ha1" + whose)}
		b := box.New(true)
		for range 2 {
			if x := proof.Dummy(b, c[0], c[1], 7); !reflect.DeepEqual(x, want) {
				t.Errorf("%q: %v, not %v", c, x, want)
			}
			sameTerms(t, b, 1)
		}
		// Not even where the box has those very terms.
		for _, part := range []string{"salt", "stored", "server", "ha1"} {
			b.Hash([]byte(part + whose))
		}
		if x := proof.Dummy(b, c[0], c[1], 7); !reflect.DeepEqual(x, want) {
			t.Errorf("%q: %v, not %v", c, x, want)
		}
		sameTerms(t, b, 1, hashed("salt"+whose), hashed("stored"+whose), hashed("server"+whose), hashed("ha1"+whose))
	}
}

// A dummy takes no room: a box without room for another term doesn't become full by it, and in a full box it is no other one.
func TestP19_2DummyFullBox(t *testing.T) {
	b := box.New(true)
	for i := range api.MaxTerms {
		b.Hash([]byte(fmt.Sprint("filler ", i)))
	}
	want := proof.Dummy(box.New(false), "t", "eve", 5)
	for _, full := range []bool{false, true} {
		if full {
			b.Hash([]byte("one too many"))
		}
		if x := proof.Dummy(b, "t", "eve", 5); !reflect.DeepEqual(x, want) || b.Full() != full || b.Len() != api.MaxTerms {
			t.Errorf("%v, full %v with %d terms", x, b.Full(), b.Len())
		}
	}
	// So the zero tags of a full box don't pass for its parts.
	if e := proof.Check(b, want, "m", make([]byte, 32)); e != api.ErrProof {
		t.Error(e)
	}
}

// A dummy is a valid secret, so that a store accepts it, and no proof fits it.
func TestP19_2DummyUse(t *testing.T) {
	for _, symbolic := range []bool{false, true} {
		b := box.New(symbolic)
		x := proof.Dummy(b, "t", "eve", 5)
		s := cred.New()
		if e := s.AddTenant("t"); e != api.OK || s.Add("t", "eve", x) != api.OK {
			t.Error(e)
		}
		for _, pass := range []string{"eve", "t", "stored t eve", "salt"} {
			p, v := prove(t, b, pass, x.Salt, x.Iter, "m")
			if e := proof.Check(b, x, "m", p); e != api.ErrProof || bytes.Equal(proof.Server(b, x, "m"), v) {
				t.Error(pass, e)
			}
		}
	}
}

func TestP19_2DummyMemory(t *testing.T) {
	for _, symbolic := range []bool{false, true} {
		b := box.New(symbolic)
		want := proof.Dummy(box.New(symbolic), "t", "eve", 5)
		for range 2 {
			x, y := proof.Dummy(b, "t", "eve", 5), proof.Dummy(b, "t", "eve", 5)
			for _, p := range [][]byte{x.Salt, x.Stored, x.Server, x.HA1} {
				wipe(p)
			}
			if !reflect.DeepEqual(y, want) {
				t.Fatal("two results share memory")
			}
			wipe(y.Salt)
			if !bytes.Equal(y.Stored, want.Stored) || !bytes.Equal(y.Server, want.Server) || !bytes.Equal(y.HA1, want.HA1) {
				t.Fatal("the parts of a secret share memory")
			}
		}
	}
}

func TestP19_2NilBox(t *testing.T) {
	x := secretOf(t, box.New(false), "pw", []byte("s"), 1)
	if p, v, e := proof.Client(nil, "pw", []byte("s"), 1, "m"); len(p) != 0 || len(v) != 0 || e != api.ErrNone {
		t.Error(p, v, e)
	}
	if p := proof.Server(nil, x, "m"); len(p) != 0 {
		t.Error(p)
	}
	for _, p := range [][]byte{nil, make([]byte, 31), make([]byte, 32), box.Handle(9)} {
		if e := proof.Check(nil, x, "m", p); e != api.ErrNone {
			t.Error(p, e)
		}
	}
	if p := proof.HA1(nil, "u", "r", "p"); len(p) != 0 {
		t.Error(p)
	}
	if p := proof.Response(nil, x.HA1, "GET", digest.Answer{URI: "u"}); len(p) != 0 {
		t.Error(p)
	}
	if y := proof.Dummy(nil, "t", "u", 5); y.Iter != 0 || len(y.Salt)+len(y.Stored)+len(y.Server)+len(y.HA1) != 0 {
		t.Error(y)
	}
}

// Whoever knows the password, in any form, can prove it for any message, and nobody else.
func TestP19_3Proofs(t *testing.T) {
	r := rand.New(rand.NewSource(1))
	text := func(signs []string, most int) string {
		var out strings.Builder
		for range 1 + r.Intn(most) {
			out.WriteString(signs[r.Intn(len(signs))])
		}
		return out.String()
	}
	signs := []string{"a", "b", " ", ",", "=", "ü", "\u0378", "😀"}
	for _, symbolic := range []bool{false, true} {
		b := box.New(symbolic)
		for range 200 {
			pass := text(signs, 16)
			form := strings.NewReplacer(" ", "\u00a0", "a", "\u00ada\ufeff").Replace(pass)
			salt := []byte(text([]string{"s", "\x00", "\xff"}, 32))
			rounds := 1 + r.Intn(8)
			message := text(append(signs, "\x00", "\xff"), 40)
			x := secretOf(t, b, pass, salt, rounds)
			p, v := prove(t, b, form, salt, rounds, message)
			if e := proof.Check(b, x, message, p); e != api.OK || !bytes.Equal(v, proof.Server(b, x, message)) {
				t.Fatalf("%q for %q: %d", form, message, e)
			}
			p, v = prove(t, b, pass+"c", salt, rounds, message)
			if e := proof.Check(b, x, message, p); e != api.ErrProof || bytes.Equal(v, proof.Server(b, x, message)) {
				t.Fatalf("%q for %q: %d", pass+"c", message, e)
			}
		}
		if b.Full() {
			t.Error("the box is full")
		}
	}
}

// Every secret that a password was made into is proved by it, and by none of the others.
func TestP19_3Each(t *testing.T) {
	passes := []string{"a", "b", "ab", "a b", "A", "ä", strings.Repeat("a", 64)}
	for _, symbolic := range []bool{false, true} {
		b := box.New(symbolic)
		for i, mine := range passes {
			x := secretOf(t, b, mine, []byte("salt"), 2)
			for j, other := range passes {
				want := api.ErrProof
				if i == j {
					want = api.OK
				}
				p, v := prove(t, b, other, []byte("salt"), 2, "message")
				if e := proof.Check(b, x, "message", p); e != want || (i == j) != bytes.Equal(v, proof.Server(b, x, "message")) {
					t.Errorf("%q, not %q: %d", other, mine, e)
				}
			}
		}
	}
}
