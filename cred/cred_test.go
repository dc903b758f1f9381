package cred_test

import (
	"bytes"
	"crypto/hmac"
	"crypto/pbkdf2"
	"crypto/sha256"
	"fmt"
	"math"
	"math/rand"
	"reflect"
	"slices"
	"strings"
	"testing"

	"ostiary/api"
	"ostiary/box"
	"ostiary/cred"
	"ostiary/name"
)

const mostGen = 1 << 53

// secret returns a valid secret whose bytes are all the same.
func secret(b byte) cred.Secret {
	tag := func(x byte) []byte { return bytes.Repeat([]byte{x}, 32) }
	return cred.Secret{Salt: []byte{b}, Iter: 1, Stored: tag(b), Server: tag(b + 1), HA1: tag(b + 2)}
}

// alter returns a valid secret that is a little different.
func alter(change func(*cred.Secret)) cred.Secret {
	x := secret(1)
	change(&x)
	return x
}

// badSecrets returns secrets of which one part each is not valid.
func badSecrets() []cred.Secret {
	return []cred.Secret{
		{},
		alter(func(x *cred.Secret) { x.Salt = nil }),
		alter(func(x *cred.Secret) { x.Salt = []byte{} }),
		alter(func(x *cred.Secret) { x.Salt = make([]byte, 33) }),
		alter(func(x *cred.Secret) { x.Iter = 0 }),
		alter(func(x *cred.Secret) { x.Iter = -1 }),
		alter(func(x *cred.Secret) { x.Iter = 65 }),
		alter(func(x *cred.Secret) { x.Iter = math.MaxInt }),
		alter(func(x *cred.Secret) { x.Iter = math.MinInt }),
		alter(func(x *cred.Secret) { x.Stored = nil }),
		alter(func(x *cred.Secret) { x.Stored = make([]byte, 31) }),
		alter(func(x *cred.Secret) { x.Stored = make([]byte, 33) }),
		alter(func(x *cred.Secret) { x.Server = nil }),
		alter(func(x *cred.Secret) { x.Server = make([]byte, 31) }),
		alter(func(x *cred.Secret) { x.Server = make([]byte, 33) }),
		alter(func(x *cred.Secret) { x.HA1 = nil }),
		alter(func(x *cred.Secret) { x.HA1 = make([]byte, 31) }),
		alter(func(x *cred.Secret) { x.HA1 = make([]byte, 33) }),
	}
}

// goodSecrets returns secrets that are only just valid.
func goodSecrets() []cred.Secret {
	return []cred.Secret{
		secret(7),
		alter(func(x *cred.Secret) { x.Salt = make([]byte, 1) }),
		alter(func(x *cred.Secret) { x.Salt = make([]byte, 32) }),
		alter(func(x *cred.Secret) { x.Iter = 64 }),
		alter(func(x *cred.Secret) { x.Stored = make([]byte, 32) }),
	}
}

// with makes a credential.
func with(tenant, user string, x cred.Secret, gen uint64, revoked bool, roles ...string) cred.Cred {
	return cred.Cred{Tenant: tenant, User: user, Secret: x, Gen: gen, Roles: roles, Revoked: revoked}
}

// tidy makes nil what is empty, so that equal credentials are deeply equal.
func tidy(c cred.Cred) cred.Cred {
	if len(c.Roles) == 0 {
		c.Roles = nil
	}
	return c
}

// content returns all credentials of a store, and a credential without a user for each tenant.
func content(s *cred.Store) []cred.Cred {
	var out []cred.Cred
	for tenant := range s.Tenants() {
		out = append(out, cred.Cred{Tenant: tenant})
		for c := range s.Users(tenant) {
			out = append(out, tidy(c))
		}
	}
	return out
}

// expect checks what a store contains, in order, and the largest generation.
func expect(t *testing.T, s *cred.Store, last uint64, want ...cred.Cred) {
	t.Helper()
	if got := content(s); !reflect.DeepEqual(got, want) {
		t.Fatalf("%v, not %v", got, want)
	}
	if s.Last() != last {
		t.Fatalf("last %d, not %d", s.Last(), last)
	}
}

// tenant returns what content has for a tenant.
func tenant(tenant string) cred.Cred { return cred.Cred{Tenant: tenant} }

// must checks that all calls succeeded.
func must(t *testing.T, errs ...api.Errno) {
	t.Helper()
	for i, e := range errs {
		if e != api.OK {
			t.Fatalf("call %d: %d", i, e)
		}
	}
}

// fails checks that a call returns an error, and changes nothing.
func fails(t *testing.T, s *cred.Store, want api.Errno, call func() api.Errno) {
	t.Helper()
	before, last, reads := content(s), s.Last(), s.Reads()
	if e := call(); e != want {
		t.Errorf("%d, not %d", e, want)
	}
	if !reflect.DeepEqual(content(s), before) || s.Last() != last || s.Reads() != reads {
		t.Errorf("with %d the store changed", want)
	}
}

// withAnn returns a store with the tenant t and its user ann, who has generation 1.
func withAnn(t *testing.T) *cred.Store {
	t.Helper()
	s := cred.New()
	must(t, s.AddTenant("t"), s.Add("t", "ann", secret(1)))
	return s
}

func mac(key []byte, text string) []byte {
	h := hmac.New(sha256.New, key)
	h.Write([]byte(text))
	return h.Sum(nil)
}

// expected computes a secret with Go's own library, from what is prepared.
func expected(t *testing.T, tenant, user, pass string, salt []byte, rounds int) cred.Secret {
	t.Helper()
	salted, err := pbkdf2.Key(sha256.New, pass, salt, rounds, 32)
	if err != nil {
		t.Fatal(err)
	}
	stored := sha256.Sum256(mac(salted, "Client Key"))
	ha1 := sha256.Sum256([]byte(user + ":" + tenant + ":" + pass))
	return cred.Secret{Salt: salt, Iter: rounds, Stored: stored[:], Server: mac(salted, "Server Key"), HA1: ha1[:]}
}

func TestP14_1Make(t *testing.T) {
	for _, c := range []struct {
		tenant, user, pass string
		prepared, password string
		salt               string
		rounds             int
	}{
		{"t", "ann", "pencil", "ann", "pencil", "\x01\x02", 4},
		{"t", "a\u00adnn", "pen\u200bcil", "ann", "pencil", "\x01\x02", 4},
		{"tenant-1_x", "a\u00a0b", "c\u3000d", "a b", "c d", "s", 1},
		{"-", "a:b", ":", "a:b", ":", strings.Repeat("s", 32), 64},
		{strings.Repeat("t", 32), strings.Repeat("u", 32), strings.Repeat("p", 64), strings.Repeat("u", 32), strings.Repeat("p", 64), "s", 63},
		{"t", "\u00adü", "\ufeffÄ😀", "ü", "Ä😀", "\x00", 2},
		{"t", strings.Repeat("u\u00ad", 32), strings.Repeat("p\u00ad", 64), strings.Repeat("u", 32), strings.Repeat("p", 64), "\xff", 3},
	} {
		x, e := cred.Make(box.New(false), c.tenant, c.user, c.pass, []byte(c.salt), c.rounds)
		if want := expected(t, c.tenant, c.prepared, c.password, []byte(c.salt), c.rounds); e != api.OK || !reflect.DeepEqual(x, want) {
			t.Errorf("%q %q: %v %d, not %v", c.user, c.pass, x, e, want)
		}
	}
}

// What a symbolic box has computed stands in its terms, in the order of the chapter.
func TestP14_1Symbolic(t *testing.T) {
	b := box.New(true)
	x, e := cred.Make(b, "t", "a\u00adnn", "p\u00adw", []byte("salt"), 9)
	must(t, e)
	want := []box.Term{
		{Kind: box.Stretch, Key: []byte("pw"), Text: []byte("salt"), Rounds: 9},
		{Kind: box.Mac, Key: box.Handle(1), Text: []byte("Client Key")},
		{Kind: box.Hash, Text: box.Handle(2)},
		{Kind: box.Mac, Key: box.Handle(1), Text: []byte("Server Key")},
		{Kind: box.Hash, Text: []byte("ann:t:pw")},
	}
	if b.Len() != len(want) {
		t.Fatal(b.Len())
	}
	for n, term := range b.Terms() {
		w := want[n-1]
		if term.Kind != w.Kind || !bytes.Equal(term.Key, w.Key) || !bytes.Equal(term.Text, w.Text) || term.Rounds != w.Rounds {
			t.Errorf("term %d is %v", n, term)
		}
	}
	if !bytes.Equal(x.Stored, box.Handle(3)) || !bytes.Equal(x.Server, box.Handle(4)) || !bytes.Equal(x.HA1, box.Handle(5)) || string(x.Salt) != "salt" || x.Iter != 9 {
		t.Error(x)
	}
	again, e := cred.Make(b, "t", "ann", "pw", []byte("salt"), 9)
	if e != api.OK || !reflect.DeepEqual(again, x) || b.Len() != 5 {
		t.Error(again, e, b.Len())
	}
}

// In a full box all tags are zero, and that is no error.
func TestP14_1FullBox(t *testing.T) {
	b := box.New(true)
	for i := range api.MaxTerms {
		b.Hash([]byte(fmt.Sprint(i)))
	}
	x, e := cred.Make(b, "t", "ann", "pw", []byte("s"), 1)
	zero := make([]byte, 32)
	if e != api.OK || !bytes.Equal(x.Stored, zero) || !bytes.Equal(x.Server, zero) || !bytes.Equal(x.HA1, zero) || !b.Full() {
		t.Error(x, e)
	}
}

func TestP14_1Errors(t *testing.T) {
	long := strings.Repeat("x", 65)
	for _, c := range []struct {
		want               api.Errno
		tenant, user, pass string
		salt, rounds       int
	}{
		{api.ErrSign, "", "ann", "pw", 1, 1},
		{api.ErrSign, "T", "ann", "pw", 1, 1},
		{api.ErrSign, "t.", "ann", "pw", 1, 1},
		{api.ErrSign, "a\u00adb", "ann", "pw", 1, 1},
		{api.ErrSign, long[:33], "ann", "pw", 1, 1},
		{api.ErrSign, "T", "\xff", "\xff", 0, 0},
		{api.ErrSign, "T", "", "", 0, 0},
		{api.ErrForm, "t", "\xff", "pw", 1, 1},
		{api.ErrForm, "t", "\xff\x00", "", 0, 0},
		{api.ErrSign, "t", "\x00", "pw", 1, 1},
		{api.ErrSign, "t", "\x00", "\xff", 0, 0},
		{api.ErrShort, "t", "", "pw", 1, 1},
		{api.ErrShort, "t", "\u00ad", "pw", 1, 1},
		{api.ErrShort, "t", "", "\xff", 0, 0},
		{api.ErrLong, "t", long[:33], "pw", 1, 1},
		{api.ErrLong, "t", long[:33], "", 0, 0},
		{api.ErrForm, "t", "ann", "\xff", 1, 1},
		{api.ErrForm, "t", "ann", "\xff", 0, 0},
		{api.ErrSign, "t", "ann", "\x00", 1, 1},
		{api.ErrSign, "t", "ann", "\x00", 33, 65},
		{api.ErrShort, "t", "ann", "", 1, 1},
		{api.ErrShort, "t", "ann", "\u200b", 0, 0},
		{api.ErrLong, "t", "ann", long, 1, 1},
		{api.ErrLong, "t", "ann", long, 0, 0},
		{api.ErrArg, "t", "ann", "pw", 0, 1},
		{api.ErrArg, "t", "ann", "pw", 33, 1},
		{api.ErrArg, "t", "ann", "pw", 1, 0},
		{api.ErrArg, "t", "ann", "pw", 1, -1},
		{api.ErrArg, "t", "ann", "pw", 1, 65},
		{api.ErrArg, "t", "ann", "pw", 1, math.MaxInt},
		{api.ErrArg, "t", "ann", "pw", 1, math.MinInt},
	} {
		for _, symbolic := range []bool{false, true} {
			b := box.New(symbolic)
			x, e := cred.Make(b, c.tenant, c.user, c.pass, make([]byte, c.salt), c.rounds)
			if e != c.want || !reflect.DeepEqual(x, cred.Secret{}) {
				t.Errorf("%+v: %v %d", c, x, e)
			}
			if b.Len() != 0 {
				t.Errorf("%+v: %d terms", c, b.Len())
			}
		}
		if x, e := cred.Make(nil, c.tenant, c.user, c.pass, make([]byte, c.salt), c.rounds); e != api.ErrNone || !reflect.DeepEqual(x, cred.Secret{}) {
			t.Errorf("%+v: %v %d without a box", c, x, e)
		}
	}
	if _, e := cred.Make(nil, "t", "ann", "pw", []byte{1}, 1); e != api.ErrNone {
		t.Error(e)
	}
	if _, e := cred.Make(box.New(false), "t", "ann", "pw", nil, 1); e != api.ErrArg {
		t.Error(e)
	}
}

func TestP14_1Memory(t *testing.T) {
	salt := append(make([]byte, 0, 8), 1, 2, 3)
	b := box.New(true)
	x, e := cred.Make(b, "t", "ann", "pw", salt, 2)
	must(t, e)
	full := salt[:8]
	if !bytes.Equal(full, []byte{1, 2, 3, 0, 0, 0, 0, 0}) {
		t.Error(full)
	}
	wipe(full)
	if !bytes.Equal(x.Salt, []byte{1, 2, 3}) {
		t.Error(x.Salt)
	}
	want := cred.Secret{Salt: []byte{1, 2, 3}, Iter: 2, Stored: box.Handle(3), Server: box.Handle(4), HA1: box.Handle(5)}
	wipeSecret(x)
	if y, e := cred.Make(b, "t", "ann", "pw", []byte{1, 2, 3}, 2); e != api.OK || !reflect.DeepEqual(y, want) {
		t.Error(y, e)
	}
}

// wipe overwrites a slice and its spare capacity.
func wipe(p []byte) {
	p = p[:cap(p)]
	for i := range p {
		p[i] = 0xee
	}
}

func wipeSecret(x cred.Secret) {
	for _, p := range [][]byte{x.Salt, x.Stored, x.Server, x.HA1} {
		wipe(p)
	}
}

func wipeCred(c cred.Cred) {
	wipeSecret(c.Secret)
	roles := c.Roles[:cap(c.Roles)]
	for i := range roles {
		roles[i] = "wiped"
	}
}

// The example of the chapter.
func TestP14_2Example(t *testing.T) {
	s := cred.New()
	must(t, s.AddTenant("t"), s.Add("t", "ann", secret(1)))
	expect(t, s, 1, tenant("t"), with("t", "ann", secret(1), 1, false))
	must(t, s.Grant("t", "ann", "dev"))
	expect(t, s, 2, tenant("t"), with("t", "ann", secret(1), 2, false, "dev"))
	must(t, s.Revoke("t", "ann", true))
	expect(t, s, 3, tenant("t"), with("t", "ann", secret(1), 3, true, "dev"))
	if s.Current("t", "ann", 3) {
		t.Error("ann is revoked, and current")
	}
}

func TestP14_2AddTenant(t *testing.T) {
	s := cred.New()
	if s == nil {
		t.Fatal("no store")
	}
	expect(t, s, 0)
	for _, bad := range []string{"", "T", "a b", "a.b", "ä", "a\u00ad", strings.Repeat("t", 33), "\xff"} {
		fails(t, s, api.ErrSign, func() api.Errno { return s.AddTenant(bad) })
	}
	names := []string{"h", "b", strings.Repeat("t", 32), "-", "_", "0", "a", "c"}
	var want []cred.Cred
	for _, n := range names {
		must(t, s.AddTenant(n))
		fails(t, s, api.ErrExists, func() api.Errno { return s.AddTenant(n) })
		want = append(want, tenant(n))
	}
	slices.SortFunc(want, func(x, y cred.Cred) int { return strings.Compare(x.Tenant, y.Tenant) })
	expect(t, s, 0, want...)
	fails(t, s, api.ErrFull, func() api.Errno { return s.AddTenant("d") })
	fails(t, s, api.ErrExists, func() api.Errno { return s.AddTenant("a") })
	fails(t, s, api.ErrSign, func() api.Errno { return s.AddTenant("D") })
	must(t, s.DropTenant("a"), s.AddTenant("d"))
	fails(t, s, api.ErrFull, func() api.Errno { return s.AddTenant("a") })
}

func TestP14_2DropTenant(t *testing.T) {
	s := withAnn(t)
	must(t, s.AddTenant("q"), s.Add("q", "ann", secret(2)))
	for _, n := range []string{"", "T", "s", "\xff", "t ", strings.Repeat("t", 40)} {
		fails(t, s, api.ErrNone, func() api.Errno { return s.DropTenant(n) })
	}
	must(t, s.DropTenant("t"))
	expect(t, s, 2, tenant("q"), with("q", "ann", secret(2), 2, false))
	fails(t, s, api.ErrNone, func() api.Errno { return s.DropTenant("t") })
	fails(t, s, api.ErrNone, func() api.Errno { return s.Add("t", "ann", secret(1)) })
	fails(t, s, api.ErrNone, func() api.Errno { return s.Drop("t", "ann") })
	must(t, s.AddTenant("t"))
	expect(t, s, 2, tenant("q"), with("q", "ann", secret(2), 2, false), tenant("t"))
	must(t, s.Add("t", "ann", secret(3)))
	expect(t, s, 3, tenant("q"), with("q", "ann", secret(2), 2, false), tenant("t"), with("t", "ann", secret(3), 3, false))
}

func TestP14_2Add(t *testing.T) {
	s := cred.New()
	must(t, s.AddTenant("t"), s.AddTenant("q"), s.Add("t", "b\u00adob", secret(1)), s.Add("t", "a\u00a0b", secret(2)), s.Add("q", "bob", secret(3)))
	expect(t, s, 3, tenant("q"), with("q", "bob", secret(3), 3, false),
		tenant("t"), with("t", "a b", secret(2), 2, false), with("t", "bob", secret(1), 1, false))
	for _, user := range []string{"bob", "bo\u200bb", "b\ufeffob", "a b", "a\u3000b"} {
		fails(t, s, api.ErrExists, func() api.Errno { return s.Add("t", user, secret(4)) })
	}
	// Names are not folded.
	must(t, s.Add("t", "Bob", secret(4)), s.Add("t", "bob ", secret(5)))
	for i, x := range goodSecrets() {
		user := fmt.Sprint("u", i)
		must(t, s.Add("q", user, x))
		if c, ok := s.Find("q", user); !ok || !reflect.DeepEqual(c.Secret, x) {
			t.Error(c)
		}
	}
}

func TestP14_2AddErrors(t *testing.T) {
	s := withAnn(t)
	for _, c := range []struct {
		want api.Errno
		user string
	}{
		{api.ErrForm, "\xff"}, {api.ErrForm, "\x00\xff"}, {api.ErrSign, "\x00"}, {api.ErrShort, ""}, {api.ErrShort, "\u00ad"},
		{api.ErrLong, strings.Repeat("u", 33)}, {api.ErrLong, strings.Repeat("ü", 17)},
	} {
		fails(t, s, c.want, func() api.Errno { return s.Add("t", c.user, secret(1)) })
		fails(t, s, c.want, func() api.Errno { return s.Add("t", c.user, cred.Secret{}) })
		fails(t, s, api.ErrNone, func() api.Errno { return s.Add("none", c.user, cred.Secret{}) })
		fails(t, s, api.ErrNone, func() api.Errno { return s.Add("", c.user, secret(1)) })
	}
	for _, x := range badSecrets() {
		fails(t, s, api.ErrForm, func() api.Errno { return s.Add("t", "bob", x) })
		fails(t, s, api.ErrForm, func() api.Errno { return s.Add("t", "ann", x) })
		fails(t, s, api.ErrNone, func() api.Errno { return s.Add("none", "bob", x) })
	}
	fails(t, s, api.ErrExists, func() api.Errno { return s.Add("t", "ann", secret(1)) })
}

func TestP14_2AddFull(t *testing.T) {
	s := cred.New()
	must(t, s.AddTenant("t"), s.AddTenant("q"))
	for i := range 32 {
		must(t, s.Add("t", fmt.Sprint(i), secret(1)))
	}
	fails(t, s, api.ErrFull, func() api.Errno { return s.Add("t", "more", secret(1)) })
	fails(t, s, api.ErrExists, func() api.Errno { return s.Add("t", "31", secret(1)) })
	fails(t, s, api.ErrForm, func() api.Errno { return s.Add("t", "more", cred.Secret{}) })
	fails(t, s, api.ErrLong, func() api.Errno { return s.Add("t", strings.Repeat("x", 33), secret(1)) })
	must(t, s.Add("q", "more", secret(1)), s.Drop("t", "7"), s.Add("t", "more", secret(1)))
	fails(t, s, api.ErrFull, func() api.Errno { return s.Add("t", "7", secret(1)) })
	must(t, s.Change("t", "31", secret(2)), s.Grant("t", "31", "dev"))
}

func TestP14_2Change(t *testing.T) {
	s := withAnn(t)
	must(t, s.Add("t", "bob", secret(2)), s.Grant("t", "ann", "dev"), s.Revoke("t", "ann", true))
	must(t, s.Change("t", "an\u00adn", secret(3)))
	expect(t, s, 5, tenant("t"), with("t", "ann", secret(3), 5, true, "dev"), with("t", "bob", secret(2), 2, false))
	// Also if the secret stays the same.
	must(t, s.Change("t", "ann", secret(3)))
	expect(t, s, 6, tenant("t"), with("t", "ann", secret(3), 6, true, "dev"), with("t", "bob", secret(2), 2, false))
	for _, x := range badSecrets() {
		fails(t, s, api.ErrForm, func() api.Errno { return s.Change("t", "ann", x) })
		fails(t, s, api.ErrNone, func() api.Errno { return s.Change("t", "eve", x) })
		fails(t, s, api.ErrNone, func() api.Errno { return s.Change("q", "ann", x) })
	}
	for i, x := range goodSecrets() {
		must(t, s.Change("t", "ann", x))
		expect(t, s, uint64(7+i), tenant("t"), with("t", "ann", x, uint64(7+i), true, "dev"), with("t", "bob", secret(2), 2, false))
	}
}

// noUser are names under which the store has nobody; some can't be prepared.
var noUser = []string{"", "\xff", "\x00", "\u00ad", strings.Repeat("u", 33), "Ann", "ann ", "an", "annn", "616e6e", "eve"}

func TestP14_2NoUser(t *testing.T) {
	s := withAnn(t)
	must(t, s.AddTenant("q"))
	calls := func(tenant, user string) []func() api.Errno {
		return []func() api.Errno{
			func() api.Errno { return s.Change(tenant, user, secret(2)) },
			func() api.Errno { return s.Change(tenant, user, cred.Secret{}) },
			func() api.Errno { return s.Drop(tenant, user) },
			func() api.Errno { return s.Revoke(tenant, user, true) },
			func() api.Errno { return s.Revoke(tenant, user, false) },
			func() api.Errno { return s.Grant(tenant, user, "dev") },
			func() api.Errno { return s.Grant(tenant, user, "DEV") },
			func() api.Errno { return s.Ungrant(tenant, user, "dev") },
			func() api.Errno { return s.Ungrant(tenant, user, "") },
		}
	}
	all := calls("q", "ann")
	for _, user := range noUser {
		all = append(all, calls("t", user)...)
	}
	for _, tenant := range []string{"", "T", "none", "t\u00ad", "\xff"} {
		all = append(all, calls(tenant, "ann")...)
	}
	for _, call := range all {
		fails(t, s, api.ErrNone, call)
	}
}

func TestP14_2Drop(t *testing.T) {
	s := withAnn(t)
	must(t, s.Add("t", "bob", secret(2)), s.AddTenant("q"), s.Add("q", "ann", secret(3)), s.Drop("t", "an\u2060n"))
	expect(t, s, 3, tenant("q"), with("q", "ann", secret(3), 3, false), tenant("t"), with("t", "bob", secret(2), 2, false))
	fails(t, s, api.ErrNone, func() api.Errno { return s.Drop("t", "ann") })
	must(t, s.Drop("t", "bob"), s.Drop("q", "ann"))
	expect(t, s, 3, tenant("q"), tenant("t"))
	// A generation is never given again.
	must(t, s.Add("t", "bob", secret(1)))
	expect(t, s, 4, tenant("q"), tenant("t"), with("t", "bob", secret(1), 4, false))
}

func TestP14_2Revoke(t *testing.T) {
	s := withAnn(t)
	must(t, s.Add("t", "bob", secret(2)), s.Grant("t", "ann", "dev"))
	gen := uint64(3)
	for _, revoked := range []bool{false, true, true, false, false, true} {
		must(t, s.Revoke("t", "\u00adann", revoked))
		gen++
		expect(t, s, gen, tenant("t"), with("t", "ann", secret(1), gen, revoked, "dev"), with("t", "bob", secret(2), 2, false))
	}
}

func TestP14_2Grant(t *testing.T) {
	s := withAnn(t)
	must(t, s.Add("t", "bob", secret(2)))
	var roles []string
	gen := uint64(2)
	for _, role := range []string{"m", "c", "z", "-", "d", strings.Repeat("r", 32), "_", "0"} {
		must(t, s.Grant("t", "an\u00adn", role))
		roles = append(roles, role)
		slices.Sort(roles)
		gen++
		expect(t, s, gen, tenant("t"), with("t", "ann", secret(1), gen, false, roles...), with("t", "bob", secret(2), 2, false))
		fails(t, s, api.ErrExists, func() api.Errno { return s.Grant("t", "ann", role) })
	}
	for _, bad := range []string{"", "R", "a b", "a,b", "é", "m\u00ad", strings.Repeat("r", 33), "\xff"} {
		fails(t, s, api.ErrSign, func() api.Errno { return s.Grant("t", "ann", bad) })
		fails(t, s, api.ErrSign, func() api.Errno { return s.Grant("t", "bob", bad) })
		fails(t, s, api.ErrNone, func() api.Errno { return s.Grant("t", "eve", bad) })
	}
	fails(t, s, api.ErrFull, func() api.Errno { return s.Grant("t", "ann", "e") })
	fails(t, s, api.ErrExists, func() api.Errno { return s.Grant("t", "ann", "z") })
	must(t, s.Grant("t", "bob", "e"), s.Ungrant("t", "ann", "z"), s.Grant("t", "ann", "e"))
}

func TestP14_2Ungrant(t *testing.T) {
	s := withAnn(t)
	must(t, s.Add("t", "bob", secret(2)), s.Grant("t", "ann", "b"), s.Grant("t", "ann", "a"), s.Grant("t", "ann", "c"), s.Grant("t", "bob", "d"))
	bob := with("t", "bob", secret(2), 6, false, "d")
	for _, bad := range []string{"", "R", "a b", "é", strings.Repeat("r", 33)} {
		fails(t, s, api.ErrSign, func() api.Errno { return s.Ungrant("t", "ann", bad) })
		fails(t, s, api.ErrNone, func() api.Errno { return s.Ungrant("t", "eve", bad) })
	}
	for _, role := range []string{"d", "e", "aa", "-"} {
		fails(t, s, api.ErrDenied, func() api.Errno { return s.Ungrant("t", "ann", role) })
	}
	must(t, s.Ungrant("t", "ann\u00ad", "b"))
	expect(t, s, 7, tenant("t"), with("t", "ann", secret(1), 7, false, "a", "c"), bob)
	fails(t, s, api.ErrDenied, func() api.Errno { return s.Ungrant("t", "ann", "b") })
	must(t, s.Ungrant("t", "ann", "c"))
	expect(t, s, 8, tenant("t"), with("t", "ann", secret(1), 8, false, "a"), bob)
	must(t, s.Ungrant("t", "ann", "a"))
	expect(t, s, 9, tenant("t"), with("t", "ann", secret(1), 9, false), bob)
	fails(t, s, api.ErrDenied, func() api.Errno { return s.Ungrant("t", "ann", "a") })
}

// When no generation is left, nothing can be changed any more, but for what needs none.
func TestP14_2NoGeneration(t *testing.T) {
	s := withAnn(t)
	must(t, s.Grant("t", "ann", "dev"), s.Raise(mostGen-1), s.Add("t", "bob", secret(2)))
	expect(t, s, mostGen, tenant("t"), with("t", "ann", secret(1), 2, false, "dev"), with("t", "bob", secret(2), mostGen, false))
	for _, c := range []struct {
		want api.Errno
		call func() api.Errno
	}{
		{api.ErrFull, func() api.Errno { return s.Add("t", "eve", secret(1)) }},
		{api.ErrFull, func() api.Errno { return s.Change("t", "ann", secret(2)) }},
		{api.ErrFull, func() api.Errno { return s.Change("t", "ann", secret(1)) }},
		{api.ErrFull, func() api.Errno { return s.Revoke("t", "ann", true) }},
		{api.ErrFull, func() api.Errno { return s.Revoke("t", "ann", false) }},
		{api.ErrFull, func() api.Errno { return s.Grant("t", "ann", "a") }},
		{api.ErrFull, func() api.Errno { return s.Ungrant("t", "ann", "dev") }},
		{api.ErrNone, func() api.Errno { return s.Add("none", "eve", secret(1)) }},
		{api.ErrShort, func() api.Errno { return s.Add("t", "", secret(1)) }},
		{api.ErrForm, func() api.Errno { return s.Add("t", "eve", cred.Secret{}) }},
		{api.ErrExists, func() api.Errno { return s.Add("t", "ann", secret(1)) }},
		{api.ErrNone, func() api.Errno { return s.Change("t", "eve", secret(1)) }},
		{api.ErrForm, func() api.Errno { return s.Change("t", "ann", cred.Secret{}) }},
		{api.ErrNone, func() api.Errno { return s.Revoke("t", "eve", true) }},
		{api.ErrNone, func() api.Errno { return s.Grant("t", "eve", "dev") }},
		{api.ErrSign, func() api.Errno { return s.Grant("t", "ann", "") }},
		{api.ErrExists, func() api.Errno { return s.Grant("t", "ann", "dev") }},
		{api.ErrNone, func() api.Errno { return s.Ungrant("t", "eve", "dev") }},
		{api.ErrSign, func() api.Errno { return s.Ungrant("t", "ann", "") }},
		{api.ErrDenied, func() api.Errno { return s.Ungrant("t", "ann", "ops") }},
	} {
		fails(t, s, c.want, c.call)
	}
	must(t, s.AddTenant("q"), s.DropTenant("q"), s.Load(with("t", "eve", secret(3), 1, true)), s.Drop("t", "bob"))
	expect(t, s, mostGen, tenant("t"), with("t", "ann", secret(1), 2, false, "dev"), with("t", "eve", secret(3), 1, true))
}

func TestP14_2Memory(t *testing.T) {
	s := cred.New()
	x, y := secret(1), secret(2)
	must(t, s.AddTenant("t"), s.Add("t", "ann", x), s.Add("t", "bob", x), s.Change("t", "bob", y))
	wipeSecret(x)
	wipeSecret(y)
	expect(t, s, 3, tenant("t"), with("t", "ann", secret(1), 1, false), with("t", "bob", secret(2), 3, false))
	// Not even the spare capacity of an argument is changed.
	z := secret(5)
	z.Salt = append(make([]byte, 0, 4), 1)
	must(t, s.Add("t", "cyd", z))
	if full := z.Salt[:4]; !bytes.Equal(full, []byte{1, 0, 0, 0}) {
		t.Error(full)
	}
}

func TestP14_3Find(t *testing.T) {
	s := withAnn(t)
	must(t, s.AddTenant("q"), s.Grant("t", "ann", "b"), s.Grant("t", "ann", "a"), s.Revoke("t", "ann", true))
	if s.Reads() != 0 {
		t.Fatal(s.Reads())
	}
	reads := uint64(0)
	for _, user := range []string{"ann", "a\u00adnn", "ann\u200b", "\ufe00ann"} {
		c, ok := s.Find("t", user)
		reads++
		if want := with("t", "ann", secret(1), 4, true, "a", "b"); !ok || !reflect.DeepEqual(c, want) || s.Reads() != reads {
			t.Error(user, c, ok, s.Reads())
		}
	}
	for _, user := range noUser {
		c, ok := s.Find("t", user)
		reads++
		if ok || !reflect.DeepEqual(c, cred.Cred{}) || s.Reads() != reads {
			t.Error(user, c, ok, s.Reads())
		}
	}
	for _, tenant := range []string{"", "q", "T", "none", "\xff"} {
		c, ok := s.Find(tenant, "ann")
		reads++
		if ok || !reflect.DeepEqual(c, cred.Cred{}) || s.Reads() != reads {
			t.Error(tenant, c, ok, s.Reads())
		}
	}
	must(t, s.Drop("t", "ann"))
	if _, ok := s.Find("t", "ann"); ok {
		t.Error("ann is still there")
	}
}

// Only calls of Find are counted.
func TestP14_3Reads(t *testing.T) {
	s := withAnn(t)
	s.Find("t", "ann")
	must(t, s.Change("t", "ann", secret(2)), s.Revoke("t", "ann", false), s.Grant("t", "ann", "dev"), s.Ungrant("t", "ann", "dev"), s.Load(with("q", "a", secret(1), 1, false)), s.Raise(9))
	s.Current("t", "ann", 5)
	s.Has("t", "ann", "dev")
	content(s)
	s.Add("t", "ann", secret(1))
	must(t, s.Drop("t", "ann"), s.DropTenant("t"))
	if s.Reads() != 1 {
		t.Error(s.Reads())
	}
}

func TestP14_3Current(t *testing.T) {
	s := withAnn(t)
	must(t, s.AddTenant("q"), s.Add("q", "ann", secret(1)), s.Grant("q", "ann", "dev"))
	check := func(tenant, user string, want ...uint64) {
		t.Helper()
		for gen := range uint64(12) {
			if s.Current(tenant, user, gen) != slices.Contains(want, gen) {
				t.Errorf("%s of %s has generation %d: %v", user, tenant, gen, !slices.Contains(want, gen))
			}
		}
	}
	check("t", "ann", 1)
	check("t", "a\u00adnn", 1)
	check("q", "ann", 3)
	check("", "ann")
	check("none", "ann")
	for _, user := range noUser {
		check("t", user)
	}
	must(t, s.Revoke("t", "ann", true))
	check("t", "ann")
	must(t, s.Revoke("t", "ann", false))
	check("t", "ann", 5)
	must(t, s.Change("t", "ann", secret(1)))
	check("t", "ann", 6)
	must(t, s.Grant("t", "ann", "a"))
	check("t", "ann", 7)
	must(t, s.Ungrant("t", "ann", "a"))
	check("t", "ann", 8)
	check("q", "ann", 3)
	must(t, s.Drop("t", "ann"))
	check("t", "ann")
	must(t, s.Add("t", "ann", secret(1)))
	check("t", "ann", 9)
}

func TestP14_3Has(t *testing.T) {
	s := withAnn(t)
	must(t, s.Add("t", "bob", secret(1)), s.AddTenant("q"), s.Add("q", "ann", secret(1)), s.Grant("t", "ann", "dev"), s.Grant("t", "ann", "ops"), s.Grant("t", "bob", "bobs"))
	check := func(tenant, user string, want ...string) {
		t.Helper()
		for _, role := range []string{"dev", "ops", "bobs", "", "DEV", "d", "de", "devs", "\xff"} {
			if s.Has(tenant, user, role) != slices.Contains(want, role) {
				t.Errorf("%s of %s has %q: %v", user, tenant, role, !slices.Contains(want, role))
			}
		}
	}
	check("t", "ann", "dev", "ops")
	check("t", "an\u00adn", "dev", "ops")
	check("t", "bob", "bobs")
	check("q", "ann")
	check("none", "ann")
	for _, user := range noUser {
		check("t", user)
	}
	must(t, s.Revoke("t", "ann", true))
	check("t", "ann")
	check("t", "bob", "bobs")
	must(t, s.Revoke("t", "ann", false), s.Ungrant("t", "ann", "dev"))
	check("t", "ann", "ops")
	must(t, s.Drop("t", "ann"), s.Add("t", "ann", secret(1)))
	check("t", "ann")
}

func TestP14_3Iterators(t *testing.T) {
	s := cred.New()
	tenants, users := s.Tenants(), s.Users("b")
	if n := len(slices.Collect(tenants)) + len(slices.Collect(users)); n != 0 {
		t.Fatal(n)
	}
	must(t, s.AddTenant("b"), s.AddTenant("a"), s.AddTenant("a-"), s.AddTenant("aa"), s.AddTenant("0"))
	for i, user := range []string{"é", "b", "a", "Z", "a b", "ab", "~"} {
		must(t, s.Add("b", user, secret(byte(i))))
	}
	wantTenants := []string{"0", "a", "a-", "aa", "b"}
	wantUsers := []string{"Z", "a", "a b", "ab", "b", "~", "é"}
	for range 2 {
		if got := slices.Collect(tenants); !slices.Equal(got, wantTenants) {
			t.Error(got)
		}
		var got []string
		for c := range users {
			got = append(got, c.User)
		}
		if !slices.Equal(got, wantUsers) {
			t.Error(got)
		}
	}
	for n := 1; n <= 4; n++ {
		var got []string
		tenants(func(tenant string) bool {
			got = append(got, tenant)
			return len(got) < n
		})
		if !slices.Equal(got, wantTenants[:n]) {
			t.Error(n, got)
		}
		got = nil
		users(func(c cred.Cred) bool {
			got = append(got, c.User)
			return len(got) < n
		})
		if !slices.Equal(got, wantUsers[:n]) {
			t.Error(n, got)
		}
	}
	for _, tenant := range []string{"", "a", "B", "none", "\xff"} {
		for c := range s.Users(tenant) {
			t.Error(c)
		}
	}
}

// Users and tenants may be dropped and added while they are iterated over.
func TestP14_3ChangeMeanwhile(t *testing.T) {
	s := cred.New()
	must(t, s.AddTenant("t"), s.AddTenant("q"), s.Add("t", "a", secret(1)), s.Add("t", "b", secret(2)), s.Add("q", "c", secret(3)))
	for tenant := range s.Tenants() {
		for c := range s.Users(tenant) {
			must(t, s.Drop(tenant, c.User), s.Add(tenant, c.User+"2", c.Secret))
		}
		must(t, s.AddTenant(tenant+"2"))
	}
	expect(t, s, 6, tenant("q"), with("q", "c2", secret(3), 4, false), tenant("q2"),
		tenant("t"), with("t", "a2", secret(1), 5, false), with("t", "b2", secret(2), 6, false), tenant("t2"))
}

func TestP14_3ResultMemory(t *testing.T) {
	s := withAnn(t)
	must(t, s.Grant("t", "ann", "b"), s.Grant("t", "ann", "d"))
	want := with("t", "ann", secret(1), 3, false, "b", "d")
	old, _ := s.Find("t", "ann")
	listed := slices.Collect(s.Users("t"))[0]
	for range 2 {
		c, _ := s.Find("t", "ann")
		wipeCred(c)
		for c := range s.Users("t") {
			wipeCred(c)
		}
	}
	expect(t, s, 3, tenant("t"), want)
	// What was found stays as it was, whatever becomes of the store.
	must(t, s.Grant("t", "ann", "a"), s.Grant("t", "ann", "c"), s.Ungrant("t", "ann", "b"), s.Change("t", "ann", secret(9)), s.Revoke("t", "ann", true))
	expect(t, s, 8, tenant("t"), with("t", "ann", secret(9), 8, true, "a", "c", "d"))
	if !reflect.DeepEqual(old, want) || !reflect.DeepEqual(listed, want) {
		t.Error(old, listed)
	}
}

func TestP14_3Load(t *testing.T) {
	s := cred.New()
	must(t, s.Load(with("t", "bob", secret(1), 5, true, "a", "b")))
	expect(t, s, 5, tenant("t"), with("t", "bob", secret(1), 5, true, "a", "b"))
	must(t, s.Load(with("t", "ann", secret(2), 3, false)), s.Load(with("q", "bob", secret(3), 5, false, "-")))
	expect(t, s, 5, tenant("q"), with("q", "bob", secret(3), 5, false, "-"),
		tenant("t"), with("t", "ann", secret(2), 3, false), with("t", "bob", secret(1), 5, true, "a", "b"))
	must(t, s.Load(with("e", "é \u00b7", secret(4), mostGen, false, "1", "2", "3", "4", "5", "6", "7", "8")))
	if c, ok := s.Find("e", "é \u00b7"); !ok || c.Gen != mostGen || s.Last() != mostGen {
		t.Error(c)
	}
	// What Find returned can be loaded elsewhere.
	c, _ := s.Find("t", "bob")
	u := cred.New()
	must(t, u.AddTenant("t"), u.Load(c))
	expect(t, u, 5, tenant("t"), with("t", "bob", secret(1), 5, true, "a", "b"))
	must(t, u.Revoke("t", "bob", false))
	expect(t, u, 6, tenant("t"), with("t", "bob", secret(1), 6, false, "a", "b"))
	for i, x := range goodSecrets() {
		must(t, u.Load(with("t", fmt.Sprint("u", i), x, 1, false)))
	}
}

// wrong are credentials that can't be loaded, with the errors. Those that have a wrong sign are wrong in everything else, too.
func wrong() map[api.Errno][]cred.Cred {
	nine := []string{"1", "2", "3", "4", "5", "6", "7", "8", "9"}
	out := map[api.Errno][]cred.Cred{
		api.ErrSign: {
			with("", "ann", secret(1), 1, false), with("T", "ann", secret(1), 1, false), with("t t", "", cred.Secret{}, 0, false, "b", "a"),
			with(strings.Repeat("t", 33), "ann", secret(1), 1, false), with("t", "ann", secret(1), 1, false, ""), with("t", "ann", secret(1), 1, false, "a", "b", "c."),
			with("t", "", cred.Secret{}, 0, true, "b", "a", "A"), with("t", "ann", secret(1), 1, false, append(nine, "a b")...),
			with("t", "ann", secret(1), 1, false, "A", "a"), with("t", "ann", secret(1), 1, false, strings.Repeat("r", 33)),
		},
		api.ErrForm: {
			with("t", "bob", secret(1), 0, false), with("t", "bob", secret(1), mostGen+1, false), with("t", "bob", secret(1), math.MaxUint64, false),
			with("t", "bob", secret(1), 1, false, "a", "a"), with("t", "bob", secret(1), 1, false, "b", "a"), with("t", "bob", secret(1), 1, false, "a", "c", "b"),
			with("t", "bob", secret(1), 1, false, "b", "a", "c"), with("t", "bob", secret(1), 1, false, nine...), with("t", "ann", secret(1), 0, false),
		},
	}
	for _, user := range []string{"", "\xff", "\x00", "\u00ad", "bo\u00adb", "a\u00a0b", "bob\u200b", "an\u00adn", strings.Repeat("u", 33)} {
		out[api.ErrForm] = append(out[api.ErrForm], with("t", user, secret(1), 1, false), with("new", user, secret(1), 1, false))
	}
	for _, x := range badSecrets() {
		out[api.ErrForm] = append(out[api.ErrForm], with("t", "bob", x, 1, false), with("t", "ann", x, 1, false))
	}
	out[api.ErrExists] = []cred.Cred{with("t", "ann", secret(2), 9, true, "x")}
	return out
}

func TestP14_3LoadErrors(t *testing.T) {
	s := withAnn(t)
	for want, creds := range wrong() {
		for _, c := range creds {
			fails(t, s, want, func() api.Errno { return s.Load(c) })
		}
	}
}

func TestP14_3LoadFull(t *testing.T) {
	s := withAnn(t)
	for i := range 31 {
		must(t, s.Load(with("t", fmt.Sprint(i), secret(1), 1, false)))
	}
	for _, i := range []string{"1", "2", "3", "4", "5", "6"} {
		must(t, s.AddTenant(i))
	}
	must(t, s.Load(with("7", "ann", secret(1), 1, false)))
	for _, c := range []cred.Cred{with("8", "ann", secret(1), 9, false), with("t", "more", secret(1), 9, false)} {
		fails(t, s, api.ErrFull, func() api.Errno { return s.Load(c) })
		c.Gen = 0
		fails(t, s, api.ErrForm, func() api.Errno { return s.Load(c) })
		c.Roles = []string{"A"}
		fails(t, s, api.ErrSign, func() api.Errno { return s.Load(c) })
	}
	// A full tenant has its users nevertheless.
	for want, creds := range wrong() {
		for _, c := range creds {
			fails(t, s, want, func() api.Errno { return s.Load(c) })
		}
	}
	must(t, s.Load(with("6", "ann", secret(1), 9, false)), s.Drop("t", "0"), s.Load(with("t", "more", secret(1), 1, false)))
	if s.Last() != 9 {
		t.Error(s.Last())
	}
}

func TestP14_3LoadMemory(t *testing.T) {
	s := cred.New()
	c := with("t", "ann", secret(1), 1, false, "a", "c")
	c.Roles = append(make([]string, 0, 8), c.Roles...)
	must(t, s.Load(c), s.Grant("t", "ann", "b"))
	if full := c.Roles[:8]; !slices.Equal(full, []string{"a", "c", "", "", "", "", "", ""}) {
		t.Error(full)
	}
	wipeCred(c)
	expect(t, s, 2, tenant("t"), with("t", "ann", secret(1), 2, false, "a", "b", "c"))
}

func TestP14_3Raise(t *testing.T) {
	s := withAnn(t)
	for _, c := range []struct{ to, last uint64 }{{0, 1}, {1, 1}, {7, 7}, {6, 7}, {0, 7}, {7, 7}, {8, 8}} {
		must(t, s.Raise(c.to))
		expect(t, s, c.last, tenant("t"), with("t", "ann", secret(1), 1, false))
	}
	for _, n := range []uint64{mostGen + 1, 2 * mostGen, math.MaxUint64} {
		fails(t, s, api.ErrForm, func() api.Errno { return s.Raise(n) })
	}
	must(t, s.Revoke("t", "ann", true))
	expect(t, s, 9, tenant("t"), with("t", "ann", secret(1), 9, true))
	must(t, s.Raise(mostGen))
	fails(t, s, api.ErrForm, func() api.Errno { return s.Raise(mostGen + 1) })
	fails(t, s, api.ErrFull, func() api.Errno { return s.Revoke("t", "ann", true) })
}

func TestP14_3Nil(t *testing.T) {
	var s *cred.Store
	for _, x := range []cred.Secret{{}, secret(1)} {
		for _, user := range []string{"ann", "", "\xff"} {
			for _, tenant := range []string{"t", "", "T"} {
				for i, e := range []api.Errno{
					s.AddTenant(tenant), s.DropTenant(tenant), s.Add(tenant, user, x), s.Change(tenant, user, x), s.Drop(tenant, user), s.Revoke(tenant, user, true),
					s.Grant(tenant, user, tenant), s.Ungrant(tenant, user, tenant), s.Load(with(tenant, user, x, 1, false)), s.Load(cred.Cred{}), s.Raise(1), s.Raise(math.MaxUint64),
				} {
					if e != api.ErrNone {
						t.Errorf("call %d: %d", i, e)
					}
				}
				if c, ok := s.Find(tenant, user); ok || !reflect.DeepEqual(c, cred.Cred{}) {
					t.Error(c, ok)
				}
				if s.Current(tenant, user, 0) || s.Has(tenant, user, tenant) || s.Reads() != 0 || s.Last() != 0 {
					t.Error("nil has something")
				}
			}
		}
	}
	tenants, users := s.Tenants(), s.Users("t")
	if tenants == nil || users == nil {
		t.Fatal("a nil iterator")
	}
	if len(slices.Collect(tenants)) != 0 || len(slices.Collect(users)) != 0 {
		t.Error("nil has something")
	}
}

// Each store has tenants of its own.
func TestP14_3TwoStores(t *testing.T) {
	x, y := withAnn(t), cred.New()
	expect(t, y, 0)
	must(t, y.AddTenant("t"), y.Add("t", "bob", secret(2)), y.Revoke("t", "bob", true), x.Grant("t", "ann", "dev"))
	y.Find("t", "ann")
	expect(t, x, 2, tenant("t"), with("t", "ann", secret(1), 2, false, "dev"))
	expect(t, y, 2, tenant("t"), with("t", "bob", secret(2), 2, true))
	if x.Reads() != 0 || y.Reads() != 1 {
		t.Error(x.Reads(), y.Reads())
	}
}

// model is a slow reading of the chapter: everything in one row, in the order in which it came. A credential without a user is a tenant.
type model struct {
	rows  []cred.Cred
	last  uint64
	reads uint64
}

func (m *model) at(tenant, user string) int {
	return slices.IndexFunc(m.rows, func(c cred.Cred) bool { return c.Tenant == tenant && c.User == user })
}

func (m *model) count(is func(cred.Cred) bool) int {
	n := 0
	for _, c := range m.rows {
		if is(c) {
			n++
		}
	}
	return n
}

func (m *model) tenants() int { return m.count(func(c cred.Cred) bool { return c.User == "" }) }

func (m *model) users(tenant string) int {
	return m.count(func(c cred.Cred) bool { return c.User != "" && c.Tenant == tenant })
}

func (m *model) addTenant(tenant string) api.Errno {
	switch {
	case !name.Plain(tenant):
		return api.ErrSign
	case m.at(tenant, "") >= 0:
		return api.ErrExists
	case m.tenants() == 8:
		return api.ErrFull
	}
	m.rows = append(m.rows, cred.Cred{Tenant: tenant})
	return api.OK
}

func (m *model) dropTenant(tenant string) api.Errno {
	if m.at(tenant, "") < 0 {
		return api.ErrNone
	}
	m.rows = slices.DeleteFunc(m.rows, func(c cred.Cred) bool { return c.Tenant == tenant })
	return api.OK
}

func (m *model) add(tenant, user string, x cred.Secret) api.Errno {
	prepared, e := name.Name(user)
	switch {
	case m.at(tenant, "") < 0:
		return api.ErrNone
	case e != api.OK:
		return e
	case x.Iter == 0:
		return api.ErrForm
	case m.at(tenant, prepared) >= 0:
		return api.ErrExists
	case m.users(tenant) == 32, m.last == mostGen:
		return api.ErrFull
	}
	m.last++
	m.rows = append(m.rows, with(tenant, prepared, x, m.last, false))
	return api.OK
}

// change changes a credential as the function says, if that returns no error.
func (m *model) change(tenant, user string, edit func(*cred.Cred) api.Errno) api.Errno {
	prepared, e := name.Name(user)
	i := m.at(tenant, prepared)
	if e != api.OK || i < 0 {
		return api.ErrNone
	}
	c := m.rows[i]
	if e := edit(&c); e != api.OK {
		return e
	}
	if m.last == mostGen {
		return api.ErrFull
	}
	m.last++
	c.Gen = m.last
	m.rows[i] = c
	return api.OK
}

func (m *model) drop(tenant, user string) api.Errno {
	prepared, e := name.Name(user)
	i := m.at(tenant, prepared)
	if e != api.OK || i < 0 {
		return api.ErrNone
	}
	m.rows = slices.Delete(m.rows, i, i+1)
	return api.OK
}

func grant(role string) func(*cred.Cred) api.Errno {
	return func(c *cred.Cred) api.Errno {
		switch {
		case !name.Plain(role):
			return api.ErrSign
		case slices.Contains(c.Roles, role):
			return api.ErrExists
		case len(c.Roles) == 8:
			return api.ErrFull
		}
		c.Roles = slices.Sorted(slices.Values(append([]string{role}, c.Roles...)))
		return api.OK
	}
}

func ungrant(role string) func(*cred.Cred) api.Errno {
	return func(c *cred.Cred) api.Errno {
		switch {
		case !name.Plain(role):
			return api.ErrSign
		case !slices.Contains(c.Roles, role):
			return api.ErrDenied
		}
		var rest []string
		for _, r := range c.Roles {
			if r != role {
				rest = append(rest, r)
			}
		}
		c.Roles = rest
		return api.OK
	}
}

func (m *model) load(c cred.Cred) api.Errno {
	switch {
	case !name.Plain(c.Tenant):
		return api.ErrSign
	case c.Secret.Iter == 0, c.Gen == 0, c.User == "", strings.Contains(c.User, "\u00ad"):
		return api.ErrForm
	case m.at(c.Tenant, c.User) >= 0:
		return api.ErrExists
	case m.at(c.Tenant, "") < 0 && m.tenants() == 8, m.users(c.Tenant) == 32:
		return api.ErrFull
	}
	m.addTenant(c.Tenant)
	m.rows = append(m.rows, c)
	m.last = max(m.last, c.Gen)
	return api.OK
}

func (m *model) raise(last uint64) api.Errno {
	if last > mostGen {
		return api.ErrForm
	}
	m.last = max(m.last, last)
	return api.OK
}

// sorted returns the rows as content does.
func (m *model) sorted() []cred.Cred {
	var out []cred.Cred
	for _, c := range m.rows {
		out = append(out, tidy(c))
	}
	slices.SortFunc(out, func(x, y cred.Cred) int {
		return strings.Compare(x.Tenant+"\x00"+x.User, y.Tenant+"\x00"+y.User)
	})
	return out
}

// play does one random thing to a store and its model.
func play(t *testing.T, r *rand.Rand, s *cred.Store, m *model, users int) {
	t.Helper()
	pick := func(from ...string) string { return from[r.Intn(len(from))] }
	tenant := pick("a", "b", "c", "d", "e", "f", "g", "h", "i", "a", "b", "a", "b", "T", "")
	user := pick("u\u00ad", "u", "u", "u", "u") + fmt.Sprint(r.Intn(users))
	if r.Intn(20) == 0 {
		user = pick("", "\u00ad", "\xff", "\x00", strings.Repeat("u", 33))
	}
	role := pick("a", "b", "c", "d", "e", "f", "g", "h", "i", "j", "A", "")
	x := secret(byte(r.Intn(5)))
	if r.Intn(20) == 0 {
		x.Iter = 0
	}
	var got, want api.Errno
	choice := r.Intn(40)
	switch {
	case choice < 3:
		got, want = s.AddTenant(tenant), m.addTenant(tenant)
	case choice == 3:
		if r.Intn(4) == 0 {
			got, want = s.DropTenant(tenant), m.dropTenant(tenant)
		}
	case choice < 16:
		got, want = s.Add(tenant, user, x), m.add(tenant, user, x)
	case choice < 18:
		got, want = s.Change(tenant, user, x), m.change(tenant, user, func(c *cred.Cred) api.Errno {
			if x.Iter == 0 {
				return api.ErrForm
			}
			c.Secret = x
			return api.OK
		})
	case choice == 18:
		got, want = s.Drop(tenant, user), m.drop(tenant, user)
	case choice < 21:
		revoked := r.Intn(2) == 0
		got, want = s.Revoke(tenant, user, revoked), m.change(tenant, user, func(c *cred.Cred) api.Errno {
			c.Revoked = revoked
			return api.OK
		})
	case choice < 31:
		got, want = s.Grant(tenant, user, role), m.change(tenant, user, grant(role))
	case choice < 34:
		got, want = s.Ungrant(tenant, user, role), m.change(tenant, user, ungrant(role))
	case choice < 37:
		c := with(tenant, user, x, uint64(max(0, int(m.last)+r.Intn(4)-2)), r.Intn(2) == 0, "k", "l")
		if c.Gen > mostGen || !name.Plain(tenant) && user == "" {
			return
		}
		if prepared, e := name.Name(user); e != api.OK || prepared != user {
			c.User = "\u00ad"
		}
		got, want = s.Load(c), m.load(c)
	case choice == 37:
		last := m.last + uint64(r.Intn(3)) - 1
		got, want = s.Raise(last), m.raise(last)
	default:
		look(t, r, s, m, tenant, user, role)
	}
	if got != want {
		t.Fatalf("choice %d, tenant %q, user %q, role %q: %d, not %d, with %v", choice, tenant, user, role, got, want, m.rows)
	}
}

// look compares what a store and its model tell about a user.
func look(t *testing.T, r *rand.Rand, s *cred.Store, m *model, tenant, user, role string) {
	t.Helper()
	m.reads++
	var want cred.Cred
	prepared, e := name.Name(user)
	i := m.at(tenant, prepared)
	there := e == api.OK && i >= 0
	if there {
		want = tidy(m.rows[i])
	}
	if got, ok := s.Find(tenant, user); ok != there || !reflect.DeepEqual(tidy(got), want) {
		t.Fatal(got, ok, want)
	}
	gen := want.Gen + uint64(r.Intn(2))
	if s.Current(tenant, user, gen) != (there && !want.Revoked && gen == want.Gen) {
		t.Fatal(gen, want)
	}
	if s.Has(tenant, user, role) != (there && !want.Revoked && slices.Contains(want.Roles, role)) {
		t.Fatal(role, want)
	}
}

func TestP14_3Random(t *testing.T) {
	r := rand.New(rand.NewSource(14))
	for _, start := range []uint64{0, 0, 0, mostGen - 300} {
		for _, users := range []int{2, 5, 40, 50} {
			s, m := cred.New(), &model{last: start}
			must(t, s.Raise(start))
			for i := range 2000 {
				play(t, r, s, m, users)
				if s.Last() != m.last || s.Reads() != m.reads {
					t.Fatal(s.Last(), m.last, s.Reads(), m.reads)
				}
				if i%(2*users) > 0 {
					continue
				}
				if got, want := content(s), m.sorted(); len(got)+len(want) > 0 && !reflect.DeepEqual(got, want) {
					t.Fatalf("%v, not %v", got, want)
				}
			}
		}
	}
}
