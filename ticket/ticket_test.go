package ticket_test

import (
	"bytes"
	"encoding/base64"
	"encoding/binary"
	"math"
	"math/rand"
	"slices"
	"strings"
	"testing"

	"ostiary/api"
	"ostiary/name"
	"ostiary/ticket"
)

const (
	mostEpoch  = 1<<32 - 1
	mostNumber = 1 << 53
)

// sample is a ticket of which every number and name is another one.
var sample = ticket.Ticket{Epoch: 1, Serial: 2, From: 3, To: 4, Gen: 5, Who: api.Who{Tenant: "t", User: "ann", Role: "dev"}}

// alter returns a ticket that is a little different.
func alter(change func(*ticket.Ticket)) ticket.Ticket {
	x := sample
	change(&x)
	return x
}

// is32 returns 32 bytes.
var is32 = strings.Repeat("n", 32)

// plainNames and plainNot tell what a tenant and a role may be, users and usersNot what a user may be.
var (
	plainNames = []string{"t", "dev", "a-b_9", "-", "_", "0", is32}
	plainNot   = []string{"", "T", "a b", "a.b", "a:b", "ü", "a\x00", "\x00", is32 + "n", strings.Repeat("n", 255), strings.Repeat("n", 256), strings.Repeat("n", 257)}
	users      = []string{"u", "Ann", "a b", " ", "a:b", "a,b=c", "ü😀", is32, strings.Repeat("ü", 16), "=2C", "\u0378"}
	usersNot   = []string{"", "a\u00adnn", "\u00ad", "a\u00a0b", "a\x00", "\x7f", "\xff", "a\xc3", "\ufffd", is32 + "n", strings.Repeat("ü", 16) + "n", is32 + "\u00ad", strings.Repeat("n", 256), strings.Repeat("n", 257), strings.Repeat("n", 258)}
)

// goodTickets returns tickets that are only just valid.
func goodTickets() []ticket.Ticket {
	list := []ticket.Ticket{
		sample,
		alter(func(x *ticket.Ticket) { x.Epoch = mostEpoch }),
		alter(func(x *ticket.Ticket) { x.Epoch = 0x01020304 }),
		alter(func(x *ticket.Ticket) { x.Serial = 1 }),
		alter(func(x *ticket.Ticket) { x.Serial = mostNumber }),
		alter(func(x *ticket.Ticket) { x.Serial = 0x0002030405060708 }),
		alter(func(x *ticket.Ticket) { x.Gen = 1 }),
		alter(func(x *ticket.Ticket) { x.Gen = mostNumber }),
		alter(func(x *ticket.Ticket) { x.Gen = 0x000a0b0c0d0e0f09 }),
		alter(func(x *ticket.Ticket) { x.From, x.To = 0, 1 }),
		alter(func(x *ticket.Ticket) { x.From, x.To = 0, api.MaxTick }),
		alter(func(x *ticket.Ticket) { x.From, x.To = api.MaxTick-1, api.MaxTick }),
		alter(func(x *ticket.Ticket) { x.From, x.To = 0x7654321, 0xfedcba9876 }),
	}
	for _, s := range plainNames {
		list = append(list, alter(func(x *ticket.Ticket) { x.Who.Tenant = s }), alter(func(x *ticket.Ticket) { x.Who.Role = s }))
	}
	for _, s := range users {
		list = append(list, alter(func(x *ticket.Ticket) { x.Who.User = s }))
	}
	return list
}

// badTickets returns tickets of which one part each is not valid.
func badTickets() []ticket.Ticket {
	list := []ticket.Ticket{
		{},
		alter(func(x *ticket.Ticket) { x.Epoch = 0 }),
		alter(func(x *ticket.Ticket) { x.Epoch = mostEpoch + 1 }),
		alter(func(x *ticket.Ticket) { x.Epoch = mostEpoch + 2 }),
		alter(func(x *ticket.Ticket) { x.Epoch = math.MaxUint64 }),
		alter(func(x *ticket.Ticket) { x.Serial = 0 }),
		alter(func(x *ticket.Ticket) { x.Serial = mostNumber + 1 }),
		alter(func(x *ticket.Ticket) { x.Serial = math.MaxUint64 }),
		alter(func(x *ticket.Ticket) { x.Gen = 0 }),
		alter(func(x *ticket.Ticket) { x.Gen = mostNumber + 1 }),
		alter(func(x *ticket.Ticket) { x.Gen = math.MaxUint64 }),
		alter(func(x *ticket.Ticket) { x.To = x.From }),
		alter(func(x *ticket.Ticket) { x.To = x.From - 1 }),
		alter(func(x *ticket.Ticket) { x.To = 0 }),
		alter(func(x *ticket.Ticket) { x.From, x.To = 0, 0 }),
		alter(func(x *ticket.Ticket) { x.To = api.MaxTick + 1 }),
		alter(func(x *ticket.Ticket) { x.To = math.MaxUint64 }),
		alter(func(x *ticket.Ticket) { x.From, x.To = api.MaxTick, api.MaxTick }),
		alter(func(x *ticket.Ticket) { x.From, x.To = api.MaxTick+1, api.MaxTick+2 }),
		alter(func(x *ticket.Ticket) { x.From, x.To = api.MaxTick, api.MaxTick+1 }),
		alter(func(x *ticket.Ticket) { x.From, x.To = math.MaxUint64-1, math.MaxUint64 }),
	}
	for _, s := range plainNot {
		list = append(list, alter(func(x *ticket.Ticket) { x.Who.Tenant = s }), alter(func(x *ticket.Ticket) { x.Who.Role = s }))
	}
	for _, s := range usersNot {
		list = append(list, alter(func(x *ticket.Ticket) { x.Who.User = s }))
	}
	return list
}

// written writes a ticket as the chapter tells, whether it is valid or not.
func written(x ticket.Ticket) []byte {
	p := []byte{1}
	p = binary.BigEndian.AppendUint32(p, uint32(x.Epoch))
	p = binary.BigEndian.AppendUint64(p, x.Serial)
	p = binary.BigEndian.AppendUint64(p, x.From)
	p = binary.BigEndian.AppendUint64(p, x.To)
	p = binary.BigEndian.AppendUint64(p, x.Gen)
	for _, s := range []string{x.Who.Tenant, x.Who.User, x.Who.Role} {
		p = append(p, byte(len(s)))
		p = append(p, s...)
	}
	return p
}

// slowValid is a slow reading of which tickets have a body.
func slowValid(x ticket.Ticket) bool {
	isPlain := func(s string) bool {
		return len(s) >= 1 && len(s) <= 32 && strings.IndexFunc(s, func(r rune) bool {
			return !strings.ContainsRune("abcdefghijklmnopqrstuvwxyz0123456789-_", r)
		}) < 0
	}
	user, e := name.Name(x.Who.User)
	switch {
	case x.Epoch == 0, x.Epoch > mostEpoch, x.Serial == 0, x.Serial > mostNumber, x.Gen == 0, x.Gen > mostNumber:
		return false
	case x.From > api.MaxTick, x.To > api.MaxTick, x.From >= x.To:
		return false
	case !isPlain(x.Who.Tenant), !isPlain(x.Who.Role), e != api.OK, user != x.Who.User:
		return false
	}
	return true
}

// slowRead is a slow reading of a body.
func slowRead(p []byte) (ticket.Ticket, bool) {
	if len(p) < 37 || p[0] != 1 {
		return ticket.Ticket{}, false
	}
	x := ticket.Ticket{
		Epoch:  uint64(binary.BigEndian.Uint32(p[1:])),
		Serial: binary.BigEndian.Uint64(p[5:]),
		From:   binary.BigEndian.Uint64(p[13:]),
		To:     binary.BigEndian.Uint64(p[21:]),
		Gen:    binary.BigEndian.Uint64(p[29:]),
	}
	rest := p[37:]
	for i := range 3 {
		if len(rest) == 0 || len(rest) < 1+int(rest[0]) {
			return ticket.Ticket{}, false
		}
		s := string(rest[1 : 1+int(rest[0])])
		rest = rest[1+int(rest[0]):]
		switch i {
		case 0:
			x.Who.Tenant = s
		case 1:
			x.Who.User = s
		case 2:
			x.Who.Role = s
		}
	}
	if len(rest) > 0 || !slowValid(x) {
		return ticket.Ticket{}, false
	}
	return x, true
}

// sameRead checks Read by the slow reading.
func sameRead(t *testing.T, p []byte) {
	t.Helper()
	want, ok := slowRead(p)
	got, e := ticket.Read(p)
	if got != want || (e == api.OK) != ok || !ok && e != api.ErrForm {
		t.Fatalf("%x: %v %d, not %v %v", p, got, e, want, ok)
	}
}

func TestP18_1Body(t *testing.T) {
	p, e := sample.Body()
	want := "\x01" + "\x00\x00\x00\x01" + "\x00\x00\x00\x00\x00\x00\x00\x02" + "\x00\x00\x00\x00\x00\x00\x00\x03" +
		"\x00\x00\x00\x00\x00\x00\x00\x04" + "\x00\x00\x00\x00\x00\x00\x00\x05" + "\x01t\x03ann\x03dev"
	if e != api.OK || string(p) != want {
		t.Fatalf("%x %d", p, e)
	}
	for _, x := range goodTickets() {
		p, e := x.Body()
		if e != api.OK || !bytes.Equal(p, written(x)) {
			t.Errorf("%v: %x %d", x, p, e)
		}
		if y, e := ticket.Read(p); e != api.OK || y != x {
			t.Errorf("%v: read as %v %d", x, y, e)
		}
	}
}

func TestP18_1BodyErrors(t *testing.T) {
	for _, x := range badTickets() {
		if p, e := x.Body(); len(p) != 0 || e != api.ErrForm {
			t.Errorf("%v: %x %d", x, p, e)
		}
		sameRead(t, written(x))
	}
}

// Random tickets whose numbers are near the limits.
func TestP18_1Random(t *testing.T) {
	r := rand.New(rand.NewSource(1))
	near := func(n uint64) uint64 {
		switch r.Intn(8) {
		case 0:
			return n - 1 + uint64(r.Intn(3))
		case 1:
			return uint64(r.Intn(3))
		}
		return r.Uint64() % n
	}
	pick := func(good, bad []string) string {
		if r.Intn(20) == 0 {
			return bad[r.Intn(len(bad))]
		}
		return good[r.Intn(len(good))]
	}
	valid := 0
	for range 20000 {
		x := ticket.Ticket{Epoch: near(mostEpoch), Serial: near(mostNumber), From: near(api.MaxTick), To: near(api.MaxTick), Gen: near(mostNumber)}
		x.Who = api.Who{Tenant: pick(plainNames, plainNot), User: pick(users, usersNot), Role: pick(plainNames, plainNot)}
		p, e := x.Body()
		if slowValid(x) {
			valid++
			if e != api.OK || !bytes.Equal(p, written(x)) {
				t.Fatalf("%v: %x %d", x, p, e)
			}
		} else if len(p) != 0 || e != api.ErrForm {
			t.Fatalf("%v: %x %d", x, p, e)
		}
		sameRead(t, written(x))
	}
	if valid < 2000 || valid > 18000 {
		t.Error(valid)
	}
}

// Every change of a byte, every piece, and what follows a body.
func TestP18_1Read(t *testing.T) {
	for _, x := range []ticket.Ticket{sample, goodTickets()[5], alter(func(x *ticket.Ticket) { x.Who = api.Who{Tenant: is32, User: is32, Role: is32} })} {
		p := written(x)
		for i := range p {
			for b := range 256 {
				q := slices.Clone(p)
				q[i] = byte(b)
				sameRead(t, q)
			}
			sameRead(t, p[:i])
			sameRead(t, p[i+1:])
			sameRead(t, slices.Delete(slices.Clone(p), i, i+1))
			sameRead(t, slices.Insert(slices.Clone(p), i, p[i]))
			sameRead(t, slices.Insert(slices.Clone(p), i, 0))
		}
		for b := range 256 {
			sameRead(t, append(slices.Clone(p), byte(b)))
		}
		sameRead(t, slices.Concat(p, p))
	}
	for _, p := range [][]byte{nil, {}, {1}, make([]byte, 37), make([]byte, 40), bytes.Repeat([]byte{1}, 43), bytes.Repeat([]byte{0xff}, 1000)} {
		if x, e := ticket.Read(p); e != api.ErrForm || x != (ticket.Ticket{}) {
			t.Errorf("%x: %v %d", p, x, e)
		}
	}
}

// The lengths of the names decide which of them are there.
func TestP18_1ReadNames(t *testing.T) {
	fixed := written(sample)[:37]
	for _, s := range []string{
		"\x01t\x03ann\x03dev", "\x01t\x03ann\x03de", "\x01t\x03ann\x04dev", "\x01t\x03ann\x02dev", "\x01t\x03ann\x03", "\x01t\x03ann\x00", "\x01t\x03ann",
		"\x01t\x03an", "\x01t\x03", "\x01t", "\x01", "", "\x00", "\x00\x00\x00", "\x00\x03ann\x03dev", "\x01t\x00\x03dev", "\x01t\x03ann\x03dev\x00", "\x01t\x03ann\x03dev\x01x",
		"\x03t\x03a\x02nn\x03dev", "\xff", "\xfft\x03ann\x03dev", "\x01t\xffann\x03dev", "\x01t\x03ann\xffdev", "\x01t\x02\xc3\xbc\x01-", "\x01t\x02\xc3\x00\x01-", "\x01t\x02\xc2\xad\x01-",
	} {
		sameRead(t, slices.Concat(fixed, []byte(s)))
	}
}

// slowSplit is a slow reading of a text, with Go's own decoder (which passes over line ends).
func slowSplit(text string) ([]byte, []byte, api.Errno) {
	if len(text) > api.MaxText {
		return nil, nil, api.ErrLong
	}
	parts := strings.Split(text, ".")
	if len(parts) != 2 || strings.ContainsAny(text, "\r\n") {
		return nil, nil, api.ErrForm
	}
	body, err := base64.RawURLEncoding.Strict().DecodeString(parts[0])
	if err != nil {
		return nil, nil, api.ErrForm
	}
	sum, err := base64.RawURLEncoding.Strict().DecodeString(parts[1])
	if err != nil || len(sum) != 32 {
		return nil, nil, api.ErrForm
	}
	return body, sum, api.OK
}

// sameSplit checks Split by the slow reading.
func sameSplit(t *testing.T, text string) {
	t.Helper()
	body, sum, e := slowSplit(text)
	b, s, errno := ticket.Split(text)
	if !bytes.Equal(b, body) || !bytes.Equal(s, sum) || e != errno {
		t.Fatalf("%q: %x %x %d, not %x %x %d", text, b, s, errno, body, sum, e)
	}
}

// encoded returns the text of a body and a Mac.
func encoded(body, sum []byte) string {
	return base64.RawURLEncoding.EncodeToString(body) + "." + base64.RawURLEncoding.EncodeToString(sum)
}

// bytesOf returns that many bytes, the same in every run.
func bytesOf(size int) []byte {
	p := make([]byte, size)
	rand.New(rand.NewSource(int64(size))).Read(p)
	return p
}

func TestP18_1Split(t *testing.T) {
	for size := range 80 {
		body := bytesOf(size)
		for most := range 40 {
			sum := bytesOf(most)
			b, s, e := ticket.Split(encoded(body, sum))
			if most == 32 && (e != api.OK || !bytes.Equal(b, body) || !bytes.Equal(s, sum)) {
				t.Errorf("%d and %d bytes: %x %x %d", size, most, b, s, e)
			}
			if most != 32 && (e != api.ErrForm || len(b) != 0 || len(s) != 0) {
				t.Errorf("%d and %d bytes: %x %x %d", size, most, b, s, e)
			}
		}
	}
}

func TestP18_1SplitForm(t *testing.T) {
	body, sum := encoded([]byte("body"), nil), strings.TrimPrefix(encoded(nil, bytesOf(32)), ".")
	for _, text := range []string{
		"", ".", "..", "a", "a.", ".a", "body", body, body + ".", sum, "." + sum, sum + ".", body + sum, body + "." + sum, body + sum + sum,
		body + sum + ".", body + sum + "." + sum, "." + body + sum, body + "A." + sum, body + " " + sum, " " + body + sum, body + sum + " ", body + sum + "=", body + sum + "\n", "\n" + body + sum,
		strings.Replace(body+sum, ".", "=.", 1), strings.Replace(body+sum, ".", "==.", 1), strings.Replace(body+sum, ".", ",", 1), strings.Replace(body+sum, ".", "A.", 1), strings.Replace(body+sum, ".", "", 1),
		"+/." + sum, "-_." + sum, "-_8." + sum, "-_9." + sum, "A." + sum, "AA." + sum, "AB." + sum, "AAB." + sum, "AAE." + sum, "\xff." + sum, "ü." + sum,
	} {
		sameSplit(t, text)
	}
	// Every change of a character.
	text := encoded([]byte("a body"), bytesOf(32))
	for i := range text {
		for b := range 256 {
			sameSplit(t, text[:i]+string([]byte{byte(b)})+text[i+1:])
			sameSplit(t, text[:i]+string([]byte{byte(b)})+text[i:])
		}
		sameSplit(t, text[:i])
		sameSplit(t, text[i+1:])
		sameSplit(t, text[:i]+text[i+1:])
	}
}

// A text may have MaxText bytes. One that has more is long, whatever it is.
func TestP18_1SplitLong(t *testing.T) {
	sum := bytesOf(32)
	left := api.MaxText - len(encoded(nil, sum))
	for size := left*3/4 - 3; size <= left*3/4+3; size++ {
		text := encoded(bytesOf(size), sum)
		_, _, e := ticket.Split(text)
		if want := len(text) > api.MaxText; want != (e == api.ErrLong) || !want && e != api.OK {
			t.Errorf("%d bytes: %d", len(text), e)
		}
		sameSplit(t, text)
	}
	for _, s := range []string{"a", ".", "=", "\xff", "\n"} {
		for _, size := range []int{api.MaxText - 1, api.MaxText, api.MaxText + 1, 2 * api.MaxText} {
			want := api.ErrForm
			if size > api.MaxText {
				want = api.ErrLong
			}
			if b, m, e := ticket.Split(strings.Repeat(s, size)); e != want || len(b) != 0 || len(m) != 0 {
				t.Errorf("%d times %q: %d", size, s, e)
			}
		}
	}
}

// wipe overwrites a slice and its spare capacity.
func wipe(p []byte) {
	p = p[:cap(p)]
	for i := range p {
		p[i] ^= 0xff
	}
}

func TestP18_1Memory(t *testing.T) {
	text := encoded(written(sample), bytesOf(32))
	for range 3 {
		p, e := sample.Body()
		q, errno := sample.Body()
		if e != api.OK || errno != api.OK || !bytes.Equal(p, written(sample)) {
			t.Fatal(e, errno, p)
		}
		wipe(p)
		if !bytes.Equal(q, written(sample)) {
			t.Fatal("two bodies share memory")
		}
		all := append(slices.Clone(q), "...."...)
		x, e := ticket.Read(all[:len(q)])
		if string(all) != string(q)+"...." {
			t.Fatal("an argument was changed")
		}
		wipe(all)
		if x != sample || e != api.OK {
			t.Fatal(x, e)
		}
		body, sum, e := ticket.Split(text)
		again, same, _ := ticket.Split(text)
		wipe(body)
		if e != api.OK || !bytes.Equal(sum, bytesOf(32)) || !bytes.Equal(again, written(sample)) {
			t.Fatal("two results share memory")
		}
		wipe(sum)
		if !bytes.Equal(same, bytesOf(32)) || !bytes.Equal(again, written(sample)) {
			t.Fatal("two results share memory")
		}
		wipe(again)
		wipe(same)
	}
}
