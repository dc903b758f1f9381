package roll_test

import (
	"bytes"
	"crypto/sha256"
	"encoding/base64"
	"encoding/hex"
	"fmt"
	"math/rand"
	"reflect"
	"regexp"
	"slices"
	"strconv"
	"strings"
	"testing"

	"ostiary/api"
	"ostiary/cred"
	"ostiary/name"
	"ostiary/roll"
)

const (
	mostGen   = 1 << 53
	mostBytes = 1 << 18
)

// seal adds the last line to a text.
func seal(body string) string {
	return fmt.Sprintf("%ssum %x\n", body, sha256.Sum256([]byte(body)))
}

func secret(b byte) cred.Secret {
	tag := func(x byte) []byte { return bytes.Repeat([]byte{x}, 32) }
	return cred.Secret{Salt: []byte{b, b}, Iter: 1 + int(b)%64, Stored: tag(b), Server: tag(b + 1), HA1: tag(b + 2)}
}

func with(tenant, user string, x cred.Secret, gen uint64, revoked bool, roles ...string) cred.Cred {
	return cred.Cred{Tenant: tenant, User: user, Secret: x, Gen: gen, Roles: roles, Revoked: revoked}
}

// made returns a store with these credentials. One without a user is a tenant.
func made(t *testing.T, last uint64, creds ...cred.Cred) *cred.Store {
	t.Helper()
	s := cred.New()
	for _, c := range creds {
		e := s.AddTenant(c.Tenant)
		if c.User != "" {
			e = s.Load(c)
		}
		if e != api.OK {
			t.Fatal(c, e)
		}
	}
	if e := s.Raise(last); e != api.OK {
		t.Fatal(last, e)
	}
	return s
}

// content returns all credentials of a store, and a credential without a user for each tenant.
func content(s *cred.Store) []cred.Cred {
	var out []cred.Cred
	for tenant := range s.Tenants() {
		out = append(out, cred.Cred{Tenant: tenant})
		for c := range s.Users(tenant) {
			if len(c.Roles) == 0 {
				c.Roles = nil
			}
			out = append(out, c)
		}
	}
	return out
}

// sameStores reports whether two stores tell the same about themselves.
func sameStores(a, b *cred.Store) bool {
	return reflect.DeepEqual(content(a), content(b)) && a.Last() == b.Last()
}

// want returns the text of a store as the chapter says, with Go's own library.
func want(s *cred.Store) string {
	out := fmt.Sprintf("last %d\n", s.Last())
	for tenant := range s.Tenants() {
		out += "tenant " + tenant + "\n"
		for c := range s.Users(tenant) {
			state, roles, encode := "on", "-", base64.StdEncoding.EncodeToString
			if c.Revoked {
				state = "off"
			}
			if len(c.Roles) > 0 {
				roles = strings.Join(c.Roles, ",")
			}
			x := c.Secret
			out += fmt.Sprintf("user %x %d %s %d %s %s %s %s %s\n", c.User, c.Gen, state, x.Iter, encode(x.Salt), encode(x.Stored), encode(x.Server), encode(x.HA1), roles)
		}
	}
	return seal(out)
}

// random returns a store that random changes have made.
func random(r *rand.Rand) *cred.Store {
	s := cred.New()
	pick := func(from ...string) string { return from[r.Intn(len(from))] }
	for range r.Intn(60) {
		tenant, user, role := pick("a", "b", "a-", "a_", "0"), pick("ann", "bob", "a b", "é", "a", "B", "~"), pick("a", "b", "c", "dev", "-")
		x := secret(byte(r.Intn(4)))
		x.Salt = x.Salt[:1+r.Intn(2)]
		switch r.Intn(16) {
		case 0:
			s.Drop(tenant, user)
		case 1, 2:
			s.AddTenant(tenant)
		case 3:
			s.Change(tenant, user, x)
		case 4:
			s.Revoke(tenant, user, r.Intn(2) == 0)
		case 5, 6:
			s.Grant(tenant, user, role)
		case 7:
			s.Ungrant(tenant, user, role)
		case 8:
			s.Raise(s.Last() + uint64(r.Intn(3)))
		case 9, 10:
			s.Load(with(tenant, user, x, uint64(1+r.Intn(9)), r.Intn(2) == 0))
		default:
			s.Add(tenant, user, x)
		}
	}
	return s
}

// The example of the chapter.
func TestP15_1Empty(t *testing.T) {
	s := cred.New()
	text := seal("last 0\n")
	if got := roll.Dump(s); got != text {
		t.Error(got)
	}
	u, e := roll.Load(text)
	if e != api.OK || !sameStores(u, s) {
		t.Error(e)
	}
	if e := u.AddTenant("t"); e != api.OK {
		t.Error(e)
	}
}

func TestP15_1Dump(t *testing.T) {
	x := cred.Secret{Salt: []byte{1, 2}, Iter: 4, Stored: bytes.Repeat([]byte{0xff}, 32), Server: make([]byte, 32), HA1: bytes.Repeat([]byte{0xfb, 0xef, 0xbe, 0xfb}, 8)}
	s := made(t, 12, cred.Cred{Tenant: "b"}, with("t", "ann", x, 11, true), with("t", "Ä b", x, 3, false, "dev", "ops"), cred.Cred{Tenant: "a"}, with("b", "z", x, 10, false, "a"))
	stored, server, ha1 := strings.Repeat("/", 42)+"8=", strings.Repeat("A", 43)+"=", base64.StdEncoding.EncodeToString(x.HA1)
	text := seal("last 12\ntenant a\ntenant b\nuser 7a 10 on 4 AQI= " + stored + " " + server + " " + ha1 + " a\n" +
		"tenant t\nuser 616e6e 11 off 4 AQI= " + stored + " " + server + " " + ha1 + " -\nuser c3842062 3 on 4 AQI= " + stored + " " + server + " " + ha1 + " dev,ops\n")
	if got := roll.Dump(s); got != text {
		t.Errorf("%s\nnot\n%s", got, text)
	}
	if s.Reads() != 0 {
		t.Error(s.Reads())
	}
	if got := roll.Dump(nil); got != "" {
		t.Error(got)
	}
}

func TestP15_1RoundTrip(t *testing.T) {
	r := rand.New(rand.NewSource(15))
	stores := []*cred.Store{made(t, mostGen), made(t, mostGen, with("t", "u", secret(1), mostGen, false)), made(t, 10, with("t", "u", secret(1), 9, false, "-", "a"))}
	for range 500 {
		stores = append(stores, random(r))
	}
	for _, s := range stores {
		text := roll.Dump(s)
		if text != want(s) {
			t.Fatalf("%s\nnot\n%s", text, want(s))
		}
		s.Find("a", "ann")
		u, e := roll.Load(text)
		if e != api.OK || roll.Dump(u) != text || u.Reads() != 0 {
			t.Fatal(text, e)
		}
		// Only a role - alone is not written.
		wantCreds := content(s)
		for i, c := range wantCreds {
			if slices.Equal(c.Roles, []string{"-"}) {
				wantCreds[i].Roles = nil
			}
		}
		if !reflect.DeepEqual(content(u), wantCreds) || u.Last() != s.Last() {
			t.Fatal(text)
		}
	}
}

// A full store, with everything as long as it may be, is short enough.
func TestP15_1FullStore(t *testing.T) {
	x := secret(63)
	x.Salt = bytes.Repeat([]byte{1}, 32)
	var creds []cred.Cred
	for i := range 8 {
		for j := range 32 {
			var roles []string
			for k := range 8 {
				roles = append(roles, fmt.Sprintf("%032d", k))
			}
			creds = append(creds, with(fmt.Sprintf("%032d", i), fmt.Sprintf("%032d", j), x, mostGen, true, roles...))
		}
	}
	s := made(t, 0, creds...)
	text := roll.Dump(s)
	u, e := roll.Load(text)
	if text != want(s) || e != api.OK || !sameStores(u, s) {
		t.Error(len(text), e)
	}
}

// A user whose only role is - is loaded as a user without roles.
func TestP15_1DashRole(t *testing.T) {
	s := made(t, 0, with("t", "u", secret(1), 3, false, "-"))
	text := roll.Dump(s)
	u, e := roll.Load(text)
	if e != api.OK || roll.Dump(u) != text || u.Has("t", "u", "-") || !u.Current("t", "u", 3) {
		t.Error(text, e)
	}
	if text != roll.Dump(made(t, 0, with("t", "u", secret(1), 3, false))) {
		t.Error(text)
	}
	s = made(t, 0, with("t", "u", secret(1), 3, false, "-", "-a"))
	u, e = roll.Load(roll.Dump(s))
	if e != api.OK || !sameStores(u, s) {
		t.Error(e)
	}
}

// denied checks that a text is not loaded.
func denied(t *testing.T, text string, want api.Errno) {
	t.Helper()
	if s, e := roll.Load(text); s != nil || e != want {
		t.Errorf("%.200q (%d bytes): %d, not %d", text, len(text), e, want)
	}
}

func TestP15_1Long(t *testing.T) {
	sum := len(seal(""))
	denied(t, strings.Repeat("x", mostBytes+1), api.ErrLong)
	denied(t, strings.Repeat("x", mostBytes), api.ErrForm)
	denied(t, strings.Repeat("\n", 3*mostBytes), api.ErrLong)
	for _, line := range []string{"x", "\n", "last 0\n", "tenant t\n"} {
		for extra := -2; extra <= 2; extra++ {
			body := strings.Repeat(line, mostBytes/len(line)+1)[:mostBytes-sum+extra]
			body = body[:len(body)-1] + "\n"
			want := api.ErrForm
			if extra > 0 {
				want = api.ErrLong
			}
			denied(t, seal(body), want)
			proof := api.ErrProof
			if extra > 0 {
				proof = api.ErrLong
			}
			denied(t, "X"+seal(body)[1:], proof)
		}
	}
}

func TestP15_1LastLine(t *testing.T) {
	body := "last 0\n"
	text := seal(body)
	digits := text[len(body)+4 : len(text)-1]
	for _, bad := range []string{
		"", "\n", body, body + "\n", text + "\n", text + "x", text + text[len(body):] + " ", text[:len(text)-1], text[:len(text)-2] + "\n", text[:len(text)-1] + "\r\n",
		body + "sum " + digits + "0\n", body + "sum " + digits + "00\n", body + "sum " + digits[:62] + "\n", body + "sum  " + digits[1:] + "\n", body + "sum " + digits + " \n",
		body + "sum\t" + digits + "\n", body + "sun " + digits + "\n", body + "Sum " + digits + "\n", body + " sum " + digits + "\n", body + "sum" + digits + "\n", body + "sum \n", body + "sum\n",
		body + "sum " + strings.ToUpper(digits) + "\n", body + "sum " + strings.Repeat("g", 64) + "\n", body + "sum " + digits[:63] + " \n", body + "sum " + digits[:63] + "\n\n", body + "sum " + digits[:32] + "\n" + digits[33:] + "\n",
		"last 0" + text[len(body):], body + "x" + text[len(body):], "xsum " + strings.Repeat("0", 64) + "\n", body + "sum " + strings.Repeat("\x00", 64) + "\n", body + "sum " + strings.Repeat("é", 32) + "\n",
		"sum " + strings.Repeat("0", 64), "um " + strings.Repeat("0", 64) + "\n",
	} {
		denied(t, bad, api.ErrForm)
		// Not even if the line has a hash of what is before it.
		if at := strings.LastIndex(bad, "\n"); at == len(bad)-1 && at > 0 {
			denied(t, bad+"\n", api.ErrForm)
		}
	}
}

func TestP15_1Proof(t *testing.T) {
	text := roll.Dump(made(t, 9, with("t", "ann", secret(1), 3, false, "dev"), with("t", "bob", secret(2), 4, true)))
	at := strings.LastIndex(text[:len(text)-1], "\n") + 1
	// Any other byte before the last line, and any other digit in it.
	for i := range at - 1 {
		for _, b := range []byte{text[i] ^ 1, text[i] ^ 0x20, '\n', 0, 0xff} {
			if b != text[i] {
				denied(t, text[:i]+string([]byte{b})+text[i+1:], api.ErrProof)
			}
		}
	}
	for i := at + 4; i < len(text)-1; i++ {
		for _, b := range "0123456789abcdef" {
			if byte(b) != text[i] {
				denied(t, text[:i]+string(b)+text[i+1:], api.ErrProof)
			}
		}
	}
	for _, bad := range []string{"last 0\n" + text[at:], text[at:], "\n" + text, text + text[at:], text[7:], "x\n" + text[at:], seal("last 0\n")[:7] + text[at:]} {
		denied(t, bad, api.ErrProof)
	}
}

// A text with the right hash, but of no store.
func TestP15_1NoStore(t *testing.T) {
	tag := base64.StdEncoding.EncodeToString(make([]byte, 32))
	rest := " 1 on 1 AA== " + tag + " " + tag + " " + tag + " "
	ann := "user 616e6e" + rest + "-\n"
	bob := "user 626f62" + rest + "a,b\n"
	good := []string{
		"last 1\n", "last 9007199254740992\n", "last 0\ntenant t\n", "last 1\ntenant t\n" + ann + bob, "last 1\ntenant a\ntenant t\n" + ann, "last 1\ntenant a\n" + ann + "tenant t\n" + ann,
	}
	for _, body := range good {
		if s, e := roll.Load(seal(body)); e != api.OK || roll.Dump(s) != seal(body) {
			t.Errorf("%q: %d", body, e)
		}
	}
	var tenants, users string
	for i := range 9 {
		tenants += fmt.Sprintf("tenant %d\n", i)
	}
	for i := range 33 {
		users += fmt.Sprintf("user %x", fmt.Sprintf("%02d", i)) + rest + "-\n"
	}
	in := "last 1\ntenant t\n"
	for _, body := range []string{
		"", "\n", "last\n", "last \n", "last 00\n", "last 01\n", "last +1\n", "last -1\n", "last 1 \n", " last 1\n", "last  1\n", "last 0x1\n", "last 1_0\n", "last 9007199254740993\n", "last 18446744073709551615\n",
		"last 18446744073709551616\n", "last a\n", "last 0\r\n", "last 0 0\n", "LAST 0\n", "las 0\n", "last 0\n\n", "\nlast 0\n", "last 0\nlast 0\n", "last 0\nlast 1\n", "last 1\nlast 0\n", "tenant t\n", "tenant t\nlast 0\n",
		"last 0\ntenant t\ntenant t\n", "last 0\ntenant b\ntenant a\n", "last 0\ntenant\n", "last 0\ntenant \n", "last 0\ntenant T\n", "last 0\ntenant a b\n", "last 0\ntenant t \n", "last 0\ntenants t\n",
		"last 0\ntenant " + strings.Repeat("t", 33) + "\n", "last 0\n" + tenants, "last 1\n" + ann, "last 1\n" + ann + "tenant t\n", in + bob + ann, in + ann + ann, "last 0\ntenant t\n" + ann, in + users, seal("last 0\n"), "last 0\n" + seal("last 0\n")[7:],
		in + "user" + rest + "-\n", in + "user " + rest + "-\n", in + "user 616E6E" + rest + "-\n", in + "user 616" + rest + "-\n", in + "user ff" + rest + "-\n", in + "user c2ad" + rest + "-\n", in + "user 61c2a062" + rest + "-\n", in + "user 00" + rest + "-\n", in + "user " + strings.Repeat("61", 33) + rest + "-\n",
		in + "user 61" + rest + "\n", in + "user 61" + rest, in + "user 61" + rest + "- \n", in + "user 61" + rest + "- -\n", in + "user 61" + rest + "A\n", in + "user 61" + rest + "a,\n", in + "user 61" + rest + ",a\n", in + "user 61" + rest + "b,a\n", in + "user 61" + rest + "a,a\n", in + "user 61" + rest + "a, b\n", in + "user 61" + rest + "a b\n",
		in + "user 61" + rest + "1,2,3,4,5,6,7,8,9\n", in + "user 61" + rest + "-\nusers\n", in + "x\n", in + " \n",
	} {
		denied(t, seal(body), api.ErrForm)
	}
}

// line is the form of a line of a user.
var line = regexp.MustCompile(`^user ((?:[0-9a-f]{2})+) ([1-9][0-9]{0,15}) (on|off) ([1-9][0-9]?) ([A-Za-z0-9+/=]+) ([A-Za-z0-9+/]{43}=) ([A-Za-z0-9+/]{43}=) ([A-Za-z0-9+/]{43}=) ([a-z0-9_,-]+)$`)

// isBase64 reports whether a text is the only encoding of some bytes, and how many.
func isBase64(s string) (int, bool) {
	p, err := base64.StdEncoding.DecodeString(s)
	return len(p), err == nil && base64.StdEncoding.EncodeToString(p) == s
}

// isUser is a slow reading of the chapter: whether a line is that of a user. It returns the name and the generation.
func isUser(s string) (string, uint64, bool) {
	m := line.FindStringSubmatch(s)
	if m == nil {
		return "", 0, false
	}
	user, _ := hex.DecodeString(m[1])
	prepared, e := name.Name(string(user))
	gen, _ := strconv.ParseUint(m[2], 10, 64)
	rounds, _ := strconv.Atoi(m[4])
	salt, ok := isBase64(m[5])
	ok = ok && e == api.OK && prepared == string(user) && gen <= mostGen && rounds <= 64 && salt > 0 && salt <= 32
	for _, tag := range m[6:9] {
		n, right := isBase64(tag)
		ok = ok && right && n == 32
	}
	roles := strings.Split(m[9], ",")
	for i, role := range roles {
		ok = ok && name.Plain(role) && (i == 0 || roles[i-1] < role)
	}
	return prepared, gen, ok && len(roles) <= 8
}

// isText is a slow reading of the chapter: whether lines are those before the last one.
func isText(body string) bool {
	if !strings.HasSuffix(body, "\n") {
		return false
	}
	lines := strings.Split(strings.TrimSuffix(body, "\n"), "\n")
	if !regexp.MustCompile(`^last (0|[1-9][0-9]{0,15})$`).MatchString(lines[0]) {
		return false
	}
	last, _ := strconv.ParseUint(lines[0][5:], 10, 64)
	tenant, user, tenants, users := "", "", 0, 0
	for _, l := range lines[1:] {
		if next, ok := strings.CutPrefix(l, "tenant "); ok {
			if !name.Plain(next) || next <= tenant {
				return false
			}
			tenant, user, users = next, "", 0
			tenants++
			continue
		}
		next, gen, ok := isUser(l)
		if !ok || tenant == "" || next <= user || gen > last {
			return false
		}
		user = next
		users++
		if users > 32 {
			return false
		}
	}
	return last <= mostGen && tenants <= 8
}

// Whatever is changed in a text: it is loaded if and only if it is a text.
func TestP15_1Changes(t *testing.T) {
	x := secret(9)
	x.Salt = []byte{1}
	s := made(t, 19, with("a-", "ann", secret(1), 3, false, "dev", "o"), with("a-", "bob", x, 19, true), cred.Cred{Tenant: "b"}, with("c", "é", secret(63), 10, false, "-"))
	text := roll.Dump(s)
	body := text[:strings.LastIndex(text[:len(text)-1], "\n")+1]
	check := func(changed string) {
		t.Helper()
		s, e := roll.Load(seal(changed))
		if ok := isText(changed); ok != (e == api.OK) || !ok && e != api.ErrForm || ok && roll.Dump(s) != seal(changed) {
			t.Errorf("%q: %d", changed, e)
		}
	}
	check(body)
	accepted := 0
	for i := range body {
		check(body[:i])
		check(body[i:])
		check(body[:i] + body[i+1:])
		for _, b := range []string{" ", "\n", "0", "1", "2", "9", "a", "b", "f", "n", "A", "-", ",", "=", "/", "+", "_", "\r", "\x00", "\xff"} {
			check(body[:i] + b + body[i:])
			check(body[:i] + b + body[i+1:])
			if isText(body[:i] + b + body[i+1:]) {
				accepted++
			}
		}
	}
	if accepted < 1000 {
		t.Error(accepted)
	}
	// Words and lines exchanged, left out, and twice.
	for _, sep := range []string{"\n", " ", ","} {
		parts := strings.Split(body, sep)
		for i := range parts {
			for j := range parts {
				other := slices.Clone(parts)
				other[i] = parts[j]
				check(strings.Join(other, sep))
				other[j] = parts[i]
				check(strings.Join(other, sep))
				check(strings.Join(slices.Insert(slices.Clone(parts), i, parts[j]), sep))
			}
			check(strings.Join(slices.Delete(slices.Clone(parts), i, i+1), sep))
		}
	}
}

// What was loaded is a store of its own.
func TestP15_1TwoStores(t *testing.T) {
	s := made(t, 9, with("t", "ann", secret(1), 3, false, "dev"))
	text := roll.Dump(s)
	u, e := roll.Load(text)
	v, f := roll.Load(text)
	if e != api.OK || f != api.OK || u.Revoke("t", "ann", true) != api.OK || u.AddTenant("q") != api.OK {
		t.Fatal(e, f)
	}
	if roll.Dump(s) != text || roll.Dump(v) != text || u.Last() != 10 || v.Last() != 9 {
		t.Error("the stores are not separate")
	}
}

func TestP15_2Lines(t *testing.T) {
	for _, c := range []struct {
		text string
		want []string
	}{
		{"", nil},
		{"\n", []string{""}},
		{"a", []string{"a"}},
		{"a\n", []string{"a"}},
		{"a\nb", []string{"a", "b"}},
		{"a\nb\n", []string{"a", "b"}},
		{"\na", []string{"", "a"}},
		{"\n\n", []string{"", ""}},
		{"a\n\nb\n\n", []string{"a", "", "b", ""}},
		{"a\r\nb\r", []string{"a\r", "b\r"}},
		{"a\x00\xff\u2028\v\fb\n ", []string{"a\x00\xff\u2028\v\fb", " "}},
	} {
		lines := roll.Lines(c.text)
		for range 2 {
			var got []string
			for n, l := range lines {
				got = append(got, l)
				if n != len(got) {
					t.Errorf("%q: %q has number %d", c.text, l, n)
				}
			}
			if !slices.Equal(got, c.want) {
				t.Errorf("%q: %q", c.text, got)
			}
		}
		for stop := 1; stop <= len(c.want); stop++ {
			var got []string
			lines(func(n int, l string) bool {
				got = append(got, l)
				return n < stop
			})
			if !slices.Equal(got, c.want[:stop]) {
				t.Errorf("%q: %q up to %d", c.text, got, stop)
			}
		}
	}
	if roll.Lines("") == nil {
		t.Error("a nil iterator")
	}
}

func TestP15_2LinesOfStore(t *testing.T) {
	text := roll.Dump(made(t, 7, with("t", "ann", secret(1), 3, false), cred.Cred{Tenant: "q"}))
	var got []string
	for _, l := range roll.Lines(text) {
		got = append(got, strings.SplitN(l, " ", 3)[0])
	}
	if want := []string{"last", "tenant", "tenant", "user", "sum"}; !slices.Equal(got, want) {
		t.Error(got)
	}
}

func TestP15_2Diff(t *testing.T) {
	x := secret(1)
	a := made(t, 0, with("t", "ann", x, 3, false, "dev"), with("t", "bob", x, 4, false), cred.Cred{Tenant: "gone"}, with("left", "é", x, 5, false), with("left", "a b", x, 5, true), cred.Cred{Tenant: "same"})
	b := made(t, 99, with("t", "ann", x, 6, false, "dev"), with("t", "cyd", x, 4, false), cred.Cred{Tenant: "come"}, with("new", "ann", x, 3, false, "dev"), cred.Cred{Tenant: "same"})
	there := []string{"+ tenant come", "+ tenant new", "+ user new 616e6e", "+ user t 637964", "- tenant gone", "- tenant left", "- user left 612062", "- user left c3a9", "- user t 626f62", "~ user t 616e6e"}
	if got := roll.Diff(a, b); !slices.Equal(got, there) {
		t.Errorf("%q", got)
	}
	back := []string{"+ tenant gone", "+ tenant left", "+ user left 612062", "+ user left c3a9", "+ user t 626f62", "- tenant come", "- tenant new", "- user new 616e6e", "- user t 637964", "~ user t 616e6e"}
	if got := roll.Diff(b, a); !slices.Equal(got, back) {
		t.Errorf("%q", got)
	}
	if got := roll.Diff(a, a); len(got) != 0 {
		t.Errorf("%q", got)
	}
	if a.Reads() != 0 || b.Reads() != 0 {
		t.Error(a.Reads(), b.Reads())
	}
}

func TestP15_2DiffNil(t *testing.T) {
	a := made(t, 0, with("t", "ann", secret(1), 3, false), cred.Cred{Tenant: "q"})
	for _, empty := range []*cred.Store{nil, cred.New()} {
		if got := roll.Diff(a, empty); !slices.Equal(got, []string{"- tenant q", "- tenant t", "- user t 616e6e"}) {
			t.Errorf("%q", got)
		}
		if got := roll.Diff(empty, a); !slices.Equal(got, []string{"+ tenant q", "+ tenant t", "+ user t 616e6e"}) {
			t.Errorf("%q", got)
		}
		for _, other := range []*cred.Store{nil, cred.New(), made(t, 9)} {
			if got := roll.Diff(empty, other); len(got) != 0 {
				t.Errorf("%q", got)
			}
		}
	}
}

// Each part of a credential counts, and nothing else.
func TestP15_2DiffParts(t *testing.T) {
	c := with("t", "u", secret(1), 5, false, "a", "b")
	a := made(t, 9, c)
	parts := []func(*cred.Cred){
		func(c *cred.Cred) { c.Gen = 6 },
		func(c *cred.Cred) { c.Revoked = true },
		func(c *cred.Cred) { c.Roles = nil },
		func(c *cred.Cred) { c.Roles = []string{"a"} },
		func(c *cred.Cred) { c.Roles = []string{"a", "c"} },
		func(c *cred.Cred) { c.Roles = []string{"-"} },
		func(c *cred.Cred) { c.Secret.Iter = 7 },
		func(c *cred.Cred) { c.Secret.Salt = []byte{1} },
		func(c *cred.Cred) { c.Secret.Salt = []byte{1, 2} },
		func(c *cred.Cred) { c.Secret.Stored = make([]byte, 32) },
		func(c *cred.Cred) { c.Secret.Server = make([]byte, 32) },
		func(c *cred.Cred) { c.Secret.HA1 = make([]byte, 32) },
	}
	for i, change := range parts {
		d := c
		change(&d)
		b := made(t, 9, d)
		if got := roll.Diff(a, b); !slices.Equal(got, []string{"~ user t 75"}) {
			t.Errorf("part %d: %q", i, got)
		}
	}
	none, dash := c, c
	none.Roles, dash.Roles = nil, []string{"-"}
	if got := roll.Diff(made(t, 9, none), made(t, 9, dash)); !slices.Equal(got, []string{"~ user t 75"}) {
		t.Errorf("%q", got)
	}
	b := made(t, 10, c)
	b.Find("t", "u")
	if got := roll.Diff(a, b); len(got) != 0 {
		t.Errorf("%q", got)
	}
}

// diff is a slow reading of the chapter.
func diff(a, b *cred.Store) []string {
	var out []string
	seek := func(from []cred.Cred, c cred.Cred) int {
		return slices.IndexFunc(from, func(d cred.Cred) bool { return c.Tenant == d.Tenant && c.User == d.User })
	}
	say := func(sign string, c cred.Cred) {
		if c.User == "" {
			out = append(out, sign+" tenant "+c.Tenant)
		} else {
			out = append(out, sign+" user "+c.Tenant+" "+hex.EncodeToString([]byte(c.User)))
		}
	}
	before, after := content(a), content(b)
	for _, c := range before {
		if i := seek(after, c); i < 0 {
			say("-", c)
		} else if !reflect.DeepEqual(c, after[i]) {
			say("~", c)
		}
	}
	for _, c := range after {
		if seek(before, c) < 0 {
			say("+", c)
		}
	}
	slices.Sort(out)
	return out
}

func TestP15_2DiffRandom(t *testing.T) {
	r := rand.New(rand.NewSource(16))
	for range 1000 {
		a, b := random(r), random(r)
		want := diff(a, b)
		got := roll.Diff(a, b)
		if !slices.Equal(got, want) {
			t.Fatalf("%q, not %q", got, want)
		}
		for i := range got[:cap(got)] {
			got[:cap(got)][i] = "wiped"
		}
		if again := roll.Diff(a, b); !slices.Equal(again, want) {
			t.Fatalf("%q, not %q", again, want)
		}
	}
}
