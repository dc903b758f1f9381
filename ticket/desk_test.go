package ticket_test

import (
	"bytes"
	"crypto/hmac"
	"crypto/sha256"
	"fmt"
	"math"
	"math/rand"
	"slices"
	"strings"
	"testing"

	"ostiary/api"
	"ostiary/box"
	"ostiary/ring"
	"ostiary/ticket"
)

// ann is who the tickets are for.
var ann = api.Who{Tenant: "t", User: "ann", Role: "dev"}

// mac computes a MAC with Go's own library.
func mac(key []byte, text string) []byte {
	h := hmac.New(sha256.New, key)
	h.Write([]byte(text))
	return h.Sum(nil)
}

// textFor returns the text of a ticket of a ring with that master secret, valid or not.
func textFor(master string, x ticket.Ticket) string {
	return signed(master, x.Epoch, written(x))
}

// signed returns the text with a body that is signed by the key of an epoch.
func signed(master string, epoch uint64, body []byte) string {
	key := mac([]byte(master), fmt.Sprintf("key %d", epoch))
	return encoded(body, mac(key, "ticket "+string(body)))
}

// ringOf returns a ring of a plain box.
func ringOf(t *testing.T, master string, room int) *ring.Ring {
	t.Helper()
	r, e := ring.New(box.New(false), []byte(master), room)
	if e != api.OK {
		t.Fatal(e)
	}
	return r
}

// deskOf returns a desk.
func deskOf(t *testing.T, r *ring.Ring, life uint64) *ticket.Desk {
	t.Helper()
	d, e := ticket.NewDesk(r, life)
	if d == nil || e != api.OK {
		t.Fatal(life, e)
	}
	return d
}

// mint issues a ticket for ann with generation 3.
func mint(t *testing.T, d *ticket.Desk, now uint64) (string, ticket.Ticket) {
	t.Helper()
	text, x, e := d.Mint(ann, 3, now)
	if e != api.OK {
		t.Fatal(now, e)
	}
	return text, x
}

// opens checks that a text is opened, or by what error it is not.
func opens(t *testing.T, d *ticket.Desk, text string, now uint64, want ticket.Ticket, errno api.Errno) {
	t.Helper()
	if errno != api.OK {
		want = ticket.Ticket{}
	}
	if x, e := d.Open(text, now); x != want || e != errno {
		t.Errorf("at %d: %v %d, not %v %d", now, x, e, want, errno)
	}
}

func TestP18_2NewDesk(t *testing.T) {
	r := ringOf(t, "m", 2)
	for _, life := range []uint64{1, 2, 10, api.MaxTick - 1, api.MaxTick} {
		d := deskOf(t, r, life)
		if d.Serial() != 0 || len(slices.Collect(d.Revoked())) != 0 || d.Sweep(math.MaxUint64) != 0 {
			t.Error(life)
		}
	}
	for _, life := range []uint64{0, api.MaxTick + 1, 1 << 63, math.MaxUint64} {
		if d, e := ticket.NewDesk(r, life); d != nil || e != api.ErrArg {
			t.Error(life, e)
		}
	}
	for _, life := range []uint64{0, 1, api.MaxTick, api.MaxTick + 1} {
		if d, e := ticket.NewDesk(nil, life); d != nil || e != api.ErrNone {
			t.Error(life, e)
		}
	}
}

// The example of the chapter.
func TestP18_2Example(t *testing.T) {
	d := deskOf(t, ringOf(t, "m", 2), 10)
	text, x := mint(t, d, 5)
	opens(t, d, text, 14, x, api.OK)
	opens(t, d, text, 15, x, api.ErrLate)
	if e := d.Revoke(1); e != api.OK {
		t.Error(e)
	}
	opens(t, d, text, 14, x, api.ErrGone)
}

// The tickets are those of the chapter, whenever they are issued, and for whomever.
func TestP18_2Mint(t *testing.T) {
	r := ringOf(t, "master", 3)
	d := deskOf(t, r, 100)
	serial, epoch := uint64(0), uint64(1)
	for _, now := range []uint64{0, 1, 77, 1 << 20, api.MaxTick - 101, api.MaxTick - 100, api.MaxTick - 99, api.MaxTick - 1} {
		for _, good := range goodTickets() {
			serial++
			want := ticket.Ticket{Epoch: epoch, Serial: serial, From: now, To: min(now+100, api.MaxTick), Gen: good.Gen, Who: good.Who}
			text, x, e := d.Mint(good.Who, good.Gen, now)
			if e != api.OK || x != want || text != textFor("master", want) {
				t.Fatalf("%q %v %d, not %v", text, x, e, want)
			}
			if d.Serial() != serial {
				t.Fatal(d.Serial(), serial)
			}
			opens(t, d, text, now, want, api.OK)
			opens(t, d, text, want.To-1, want, api.OK)
			opens(t, d, text, want.To, want, api.ErrLate)
			if now > 0 {
				opens(t, d, text, now-1, want, api.ErrLate)
			}
		}
		epoch, _ = r.Rotate()
	}
}

// A desk's life is limited only by the last tick.
func TestP18_2Life(t *testing.T) {
	r := ringOf(t, "m", 1)
	for _, life := range []uint64{1, 2, 1000, api.MaxTick - 1, api.MaxTick} {
		for _, now := range []uint64{0, 1, 2, 1000, api.MaxTick - 2, api.MaxTick - 1} {
			if _, x := mint(t, deskOf(t, r, life), now); x.From != now || x.To != min(now+life, api.MaxTick) {
				t.Error(life, now, x)
			}
		}
	}
}

// unfit calls Mint for tickets that would have no body.
func unfit(t *testing.T, d *ticket.Desk, want api.Errno) {
	t.Helper()
	fails := func(who api.Who, gen, now uint64) {
		if text, x, e := d.Mint(who, gen, now); text != "" || x != (ticket.Ticket{}) || e != want {
			t.Errorf("%v %d %d: %q %v %d", who, gen, now, text, x, e)
		}
	}
	for _, gen := range []uint64{0, mostNumber + 1, math.MaxUint64} {
		fails(ann, gen, 5)
	}
	for _, now := range []uint64{api.MaxTick, api.MaxTick + 1, 1 << 63, math.MaxUint64 - 5, math.MaxUint64} {
		fails(ann, 3, now)
	}
	for _, s := range plainNot {
		fails(api.Who{Tenant: s, User: "ann", Role: "dev"}, 3, 5)
		fails(api.Who{Tenant: "t", User: "ann", Role: s}, 3, 5)
	}
	for _, s := range usersNot {
		fails(api.Who{Tenant: "t", User: s, Role: "dev"}, 3, 5)
	}
	fails(api.Who{}, 0, math.MaxUint64)
}

// Whether the ring has its newest key decides only about what would have a body. A call that fails has no effect.
func TestP18_2MintErrors(t *testing.T) {
	for _, symbolic := range []bool{false, true} {
		b := box.New(symbolic)
		r, _ := ring.New(b, []byte("m"), 2)
		d := deskOf(t, r, 10)
		terms := b.Len()
		unfit(t, d, api.ErrForm)
		if d.Serial() != 0 {
			t.Fatal(d.Serial())
		}
		r.Retire(1)
		if text, x, e := d.Mint(ann, 3, 5); text != "" || x != (ticket.Ticket{}) || e != api.ErrKey {
			t.Error(text, x, e)
		}
		unfit(t, d, api.ErrForm)
		if d.Serial() != 0 || b.Len() != terms || d.Revoke(1) != api.ErrNone {
			t.Error(d.Serial(), b.Len())
		}
		r.Rotate()
		if _, x := mint(t, d, 5); x.Serial != 1 || x.Epoch != 2 {
			t.Error(x)
		}
		r.Rotate()
		r.Retire(3)
		if text, x, e := d.Mint(ann, 3, 5); text != "" || x != (ticket.Ticket{}) || e != api.ErrKey {
			t.Error(text, x, e)
		}
		if d.Serial() != 1 || d.Revoke(2) != api.ErrNone {
			t.Error(d.Serial())
		}
		unfit(t, nil, api.ErrNone)
	}
}

// The desk uses the ring as it is at that time.
func TestP18_2Ring(t *testing.T) {
	r := ringOf(t, "m", 2)
	d := deskOf(t, r, 10)
	one, x := mint(t, d, 5)
	r.Rotate()
	two, y := mint(t, d, 5)
	if x.Epoch != 1 || y.Epoch != 2 {
		t.Fatal(x, y)
	}
	opens(t, d, one, 5, x, api.OK)
	opens(t, d, two, 5, y, api.OK)
	r.Rotate()
	opens(t, d, one, 5, x, api.ErrKey)
	opens(t, d, two, 5, y, api.OK)
	r.Retire(3)
	opens(t, d, two, 5, y, api.OK)
	r.Retire(2)
	opens(t, d, two, 5, y, api.ErrKey)
}

func TestP18_2OpenTimes(t *testing.T) {
	d := deskOf(t, ringOf(t, "m", 2), 10)
	text, x := mint(t, d, 5)
	for now := range uint64(40) {
		want := api.OK
		if now < 5 || now >= 15 {
			want = api.ErrLate
		}
		opens(t, d, text, now, x, want)
	}
	for _, now := range []uint64{api.MaxTick, api.MaxTick + 1, 1<<32 + 5, 1 << 63, math.MaxUint64} {
		opens(t, d, text, now, x, api.ErrLate)
	}
}

// Of several faults the first one in the order of the chapter counts.
func TestP18_2OpenOrder(t *testing.T) {
	r := ringOf(t, "m", 8)
	for range 2 {
		r.Rotate()
	}
	d := deskOf(t, r, 10)
	mint(t, d, 5)
	good, x := mint(t, d, 5)
	late, early := uint64(15), uint64(4)
	revoked := func(epoch uint64) ticket.Ticket {
		return ticket.Ticket{Epoch: epoch, Serial: 2, From: 5, To: 15, Gen: 3, Who: ann}
	}
	r.Retire(2)
	if e := d.Revoke(2); e != api.OK || x != revoked(3) || good != textFor("m", x) {
		t.Fatal(e, x, good)
	}
	falsely := func(x ticket.Ticket) string { return encoded(written(x), bytesOf(32)) }
	bad := revoked(2)
	bad.Gen = 0
	for _, now := range []uint64{early, 5, 14, late} {
		inTime := now == 5 || now == 14
		opens(t, d, strings.Repeat("=", api.MaxText+1), now, x, api.ErrLong)
		opens(t, d, good+strings.Repeat("A", api.MaxText), now, x, api.ErrLong)
		opens(t, d, good+"A", now, x, api.ErrForm)
		opens(t, d, encoded(written(x), bytesOf(31)), now, x, api.ErrForm)
		for _, text := range []string{textFor("m", bad), falsely(bad), encoded(nil, bytesOf(32)), signed("m", 3, nil), signed("m", 3, written(bad)), signed("m", 3, written(x)[:40])} {
			opens(t, d, text, now, x, api.ErrForm)
		}
		for _, epoch := range []uint64{2, 4, 5, mostEpoch} {
			opens(t, d, textFor("m", revoked(epoch)), now, x, api.ErrKey)
			opens(t, d, falsely(revoked(epoch)), now, x, api.ErrKey)
		}
		opens(t, d, falsely(x), now, x, api.ErrProof)
		opens(t, d, signed("m", 1, written(x)), now, x, api.ErrProof)
		if inTime {
			opens(t, d, good, now, x, api.ErrGone)
		} else {
			opens(t, d, good, now, x, api.ErrLate)
		}
		// A key that is still there serves, though the desk never used it.
		if inTime {
			opens(t, d, textFor("m", revoked(1)), now, x, api.ErrGone)
		}
	}
}

// No change of a text is accepted.
func TestP18_2OpenChanged(t *testing.T) {
	d := deskOf(t, ringOf(t, "m", 2), 10)
	text, x := mint(t, d, 5)
	signs := "ABCDEFGHIJKLMNOPQRSTUVWXYZabcdefghijklmnopqrstuvwxyz0123456789-_.+/=\n \x00\xff"
	for i := range text {
		for _, b := range []byte(signs) {
			if changed := text[:i] + string([]byte{b}) + text[i+1:]; changed != text {
				if y, e := d.Open(changed, 14); e != api.ErrForm && e != api.ErrKey && e != api.ErrProof || y != (ticket.Ticket{}) {
					t.Fatalf("%q: %v %d", changed, y, e)
				}
			}
		}
		if y, e := d.Open(text[:i], 14); e != api.ErrForm || y != (ticket.Ticket{}) {
			t.Fatalf("%d bytes: %v %d", i, y, e)
		}
	}
	sum := mac(mac([]byte("m"), "key 1"), "ticket "+string(written(x)))
	for i := range 256 {
		changed := slices.Clone(sum)
		changed[i/8] ^= 1 << (i % 8)
		opens(t, d, encoded(written(x), changed), 14, x, api.ErrProof)
	}
	opens(t, d, encoded(written(x), sum), 14, x, api.OK)
}

// What is signed begins with the word ticket and a space.
func TestP18_2OpenOtherMacs(t *testing.T) {
	r := ringOf(t, "m", 2)
	d := deskOf(t, r, 10)
	_, x := mint(t, d, 5)
	body := written(x)
	for _, head := range []string{"", "ticket", "Ticket ", " ticket ", "ticket  ", "key ", "ticket \x00"} {
		_, sum, _ := r.Sign([]byte(head), body)
		opens(t, d, encoded(body, sum), 14, x, api.ErrProof)
	}
	_, sum, _ := r.Sign([]byte("ticket "), body)
	opens(t, d, encoded(body, sum), 14, x, api.OK)
	key, _ := r.Key(1)
	for _, bad := range [][]byte{key, make([]byte, 32), mac([]byte("m"), "ticket "+string(body)), mac(nil, "ticket "+string(body))} {
		opens(t, d, encoded(body, bad), 14, x, api.ErrProof)
	}
	opens(t, d, textFor("n", x), 14, x, api.ErrProof)
}

// A desk opens what another one of the same ring has issued, and nothing of another ring.
func TestP18_2TwoDesks(t *testing.T) {
	r := ringOf(t, "m", 2)
	d, same, other := deskOf(t, r, 10), deskOf(t, r, 20), deskOf(t, ringOf(t, "n", 2), 10)
	text, x := mint(t, d, 5)
	opens(t, same, text, 14, x, api.OK)
	opens(t, same, text, 15, x, api.ErrLate)
	opens(t, other, text, 14, x, api.ErrProof)
	if same.Serial() != 0 || other.Serial() != 0 || same.Revoke(1) != api.ErrNone {
		t.Error(same.Serial(), other.Serial())
	}
	long, y := mint(t, same, 5)
	if y.Serial != 1 || y.To != 25 {
		t.Error(y)
	}
	opens(t, d, long, 24, y, api.OK)
}

// In a symbolic box a Mac is a handle, and its term tells what was signed.
func TestP18_2Symbolic(t *testing.T) {
	b := box.New(true)
	r, _ := ring.New(b, []byte("m"), 2)
	d := deskOf(t, r, 10)
	text, x := mint(t, d, 5)
	term, ok := b.Term(2)
	if b.Len() != 2 || !ok || term.Kind != box.Mac || !bytes.Equal(term.Key, box.Handle(1)) || string(term.Text) != "ticket "+string(written(x)) {
		t.Fatal(b.Len(), term)
	}
	if text != encoded(written(x), box.Handle(2)) {
		t.Error(text)
	}
	opens(t, d, text, 14, x, api.OK)
	for n := range 4 {
		if n != 2 {
			opens(t, d, encoded(written(x), box.Handle(n)), 14, x, api.ErrProof)
		}
	}
	if b.Len() != 2 {
		t.Error(b.Len())
	}
	d.Mint(ann, 4, 5)
	if term, ok := b.Term(3); b.Len() != 3 || !ok || !strings.HasPrefix(string(term.Text), "ticket \x01\x00\x00\x00\x01") {
		t.Error(b.Len(), term)
	}
}

func TestP18_3Revoke(t *testing.T) {
	d := deskOf(t, ringOf(t, "m", 2), 10)
	var texts []string
	var tickets []ticket.Ticket
	for range 5 {
		text, x := mint(t, d, 5)
		texts, tickets = append(texts, text), append(tickets, x)
	}
	for _, none := range []uint64{0, 6, 7, 1<<32 + 1, 1 << 63, math.MaxUint64} {
		if e := d.Revoke(none); e != api.ErrNone {
			t.Error(none, e)
		}
	}
	gone := map[uint64]bool{}
	for _, serial := range []uint64{4, 1, 5} {
		if e := d.Revoke(serial); e != api.OK {
			t.Error(serial, e)
		}
		gone[serial] = true
		for again := range gone {
			if e := d.Revoke(again); e != api.ErrSeen {
				t.Error(again, e)
			}
		}
		for i, x := range tickets {
			want := api.OK
			if gone[x.Serial] {
				want = api.ErrGone
			}
			opens(t, d, texts[i], 14, x, want)
			opens(t, d, texts[i], 15, x, api.ErrLate)
		}
	}
	if got := slices.Collect(d.Revoked()); !slices.Equal(got, []uint64{1, 4, 5}) || d.Serial() != 5 {
		t.Error(got, d.Serial())
	}
	if text, x := mint(t, d, 6); x.Serial != 6 {
		t.Error(text, x)
	} else {
		opens(t, d, text, 6, x, api.OK)
	}
}

func TestP18_3Sweep(t *testing.T) {
	d := deskOf(t, ringOf(t, "m", 2), 10)
	for now := range uint64(6) {
		mint(t, d, now) // expires at now + 10
	}
	for _, serial := range []uint64{2, 3, 6} {
		d.Revoke(serial)
	}
	for _, c := range []struct {
		now     uint64
		swept   int
		revoked []uint64
		first   uint64 // of those whose records are still there
	}{
		{0, 0, []uint64{2, 3, 6}, 1},
		{9, 0, []uint64{2, 3, 6}, 1},
		{10, 0, []uint64{2, 3, 6}, 2},
		{10, 0, []uint64{2, 3, 6}, 2},
		{11, 1, []uint64{3, 6}, 3},
		{13, 1, []uint64{6}, 5},
		{2, 0, []uint64{6}, 5},
		{math.MaxUint64, 1, nil, 7},
		{math.MaxUint64, 0, nil, 7},
	} {
		if n := d.Sweep(c.now); n != c.swept {
			t.Errorf("at %d: %d", c.now, n)
		}
		if got := slices.Collect(d.Revoked()); !slices.Equal(got, c.revoked) || d.Serial() != 6 {
			t.Errorf("at %d: %v, %d issued", c.now, got, d.Serial())
		}
		for serial := range uint64(8) {
			want := api.ErrNone
			if slices.Contains(c.revoked, serial) {
				want = api.ErrSeen
			} else if serial >= c.first && serial <= 6 {
				continue // Revoke would revoke it
			}
			if e := d.Revoke(serial); e != want {
				t.Errorf("at %d: revoke %d is %d", c.now, serial, e)
			}
		}
	}
	// The numbers go on.
	if _, x := mint(t, d, 50); x.Serial != 7 {
		t.Error(x)
	}
}

// Tickets that are issued later may expire earlier.
func TestP18_3SweepInBetween(t *testing.T) {
	d := deskOf(t, ringOf(t, "m", 2), 10)
	for _, now := range []uint64{50, 10, 30, 20, 40} {
		mint(t, d, now)
	}
	for serial := uint64(1); serial <= 5; serial++ {
		d.Revoke(serial)
	}
	for _, c := range []struct {
		now     uint64
		swept   int
		revoked []uint64
	}{
		{19, 0, []uint64{1, 2, 3, 4, 5}}, {20, 1, []uint64{1, 3, 4, 5}}, {40, 2, []uint64{1, 5}}, {59, 1, []uint64{1}}, {60, 1, nil},
	} {
		if n := d.Sweep(c.now); n != c.swept {
			t.Errorf("at %d: %d", c.now, n)
		}
		if got := slices.Collect(d.Revoked()); !slices.Equal(got, c.revoked) {
			t.Errorf("at %d: %v", c.now, got)
		}
	}
}

// A ticket whose record is still there can be revoked after it has expired.
func TestP18_3RevokeExpired(t *testing.T) {
	d := deskOf(t, ringOf(t, "m", 2), 10)
	text, x := mint(t, d, 5)
	opens(t, d, text, 15, x, api.ErrLate)
	if e := d.Revoke(1); e != api.OK || d.Revoke(1) != api.ErrSeen {
		t.Error(e)
	}
	if n := d.Sweep(15); n != 1 || d.Revoke(1) != api.ErrNone {
		t.Error(n)
	}
}

// A ticket that nobody revoked isn't revoked because its record was removed.
func TestP18_3OpenSwept(t *testing.T) {
	d := deskOf(t, ringOf(t, "m", 2), 10)
	text, x := mint(t, d, 5)
	d.Sweep(15)
	opens(t, d, text, 14, x, api.OK)
	opens(t, d, text, 15, x, api.ErrLate)
}

func TestP18_3RevokedStops(t *testing.T) {
	d := deskOf(t, ringOf(t, "m", 2), 10)
	for range 4 {
		mint(t, d, 5)
	}
	all := d.Revoked()
	if len(slices.Collect(all)) != 0 {
		t.Error("nothing is revoked yet")
	}
	for _, serial := range []uint64{3, 1, 4} {
		d.Revoke(serial)
	}
	for range 2 {
		if got := slices.Collect(all); !slices.Equal(got, []uint64{1, 3, 4}) {
			t.Error(got)
		}
		for most := 1; most <= 3; most++ {
			var got []uint64
			for serial := range all {
				got = append(got, serial)
				if len(got) == most {
					break
				}
			}
			if !slices.Equal(got, []uint64{1, 3, 4}[:most]) {
				t.Error(got)
			}
		}
	}
}

// What the consumer does to the desk meanwhile makes no difference to what it is told.
func TestP18_3ChangeMeanwhile(t *testing.T) {
	d := deskOf(t, ringOf(t, "m", 2), 10)
	for now := range uint64(6) {
		mint(t, d, now)
		d.Revoke(now + 1)
	}
	var got []uint64
	for serial := range d.Revoked() {
		got = append(got, serial)
		d.Sweep(serial + 10)
	}
	if !slices.Equal(got, []uint64{1, 2, 3, 4, 5, 6}) || len(slices.Collect(d.Revoked())) != 0 {
		t.Error(got)
	}
}

// issued is what the slow desk of TestP18_3Random remembers.
type issued struct {
	text    string
	x       ticket.Ticket
	revoked bool
	swept   bool
}

// Random calls while the time goes on, compared with a list of everything that was issued.
func TestP18_3Random(t *testing.T) {
	for seed := range int64(40) {
		r := rand.New(rand.NewSource(seed))
		life := uint64(1 + r.Intn(12))
		d := deskOf(t, ringOf(t, "m", 1), life)
		var all []issued
		now := uint64(0)
		for range 300 {
			switch r.Intn(5) {
			case 0:
				text, x := mint(t, d, now)
				want := ticket.Ticket{Epoch: 1, Serial: uint64(len(all)) + 1, From: now, To: now + life, Gen: 3, Who: ann}
				if x != want || text != textFor("m", want) {
					t.Fatal(x, want)
				}
				all = append(all, issued{text: text, x: x})
			case 1:
				serial := r.Intn(len(all) + 3)
				want := api.ErrNone
				if i := serial - 1; i >= 0 && i < len(all) && !all[i].swept {
					want = api.OK
					if all[i].revoked {
						want = api.ErrSeen
					}
					all[i].revoked = true
				}
				if e := d.Revoke(uint64(serial)); e != want {
					t.Fatal(serial, e, want)
				}
			case 2:
				want := 0
				for i, x := range all {
					if x.x.To <= now && !x.swept {
						all[i].swept = true
						if x.revoked {
							want++
						}
					}
				}
				if n := d.Sweep(now); n != want {
					t.Fatal(n, want)
				}
			case 3:
				now += uint64(r.Intn(4))
			case 4:
				agree(t, d, all, now)
			}
		}
	}
}

// agree compares what a desk tells with the list of everything that was issued.
func agree(t *testing.T, d *ticket.Desk, all []issued, now uint64) {
	t.Helper()
	var revoked []uint64
	for _, x := range all {
		want := api.OK
		switch {
		case now < x.x.From || now >= x.x.To:
			want = api.ErrLate
		case x.revoked:
			want = api.ErrGone
		}
		opens(t, d, x.text, now, x.x, want)
		if x.revoked && !x.swept {
			revoked = append(revoked, x.x.Serial)
		}
	}
	if got := slices.Collect(d.Revoked()); !slices.Equal(got, revoked) || d.Serial() != uint64(len(all)) {
		t.Fatal(got, revoked, d.Serial())
	}
}

func TestP18_3Nil(t *testing.T) {
	text, _ := mint(t, deskOf(t, ringOf(t, "m", 2), 10), 5)
	var d *ticket.Desk
	if s, x, e := d.Mint(ann, 3, 5); s != "" || x != (ticket.Ticket{}) || e != api.ErrNone {
		t.Error(s, x, e)
	}
	for _, s := range []string{text, "", strings.Repeat("a", api.MaxText+1)} {
		opens(t, d, s, 14, ticket.Ticket{}, api.ErrNone)
	}
	if e := d.Revoke(1); e != api.ErrNone || d.Sweep(100) != 0 || d.Serial() != 0 {
		t.Error(e)
	}
	for serial := range d.Revoked() {
		t.Error(serial)
	}
}
