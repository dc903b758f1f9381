package order_test

import (
	"encoding/hex"
	"fmt"
	"math/big"
	"math/rand"
	"reflect"
	"slices"
	"strings"
	"testing"

	"ostiary/api"
	"ostiary/box"
	"ostiary/cred"
	"ostiary/guard"
	"ostiary/nonce"
	"ostiary/order"
	"ostiary/ring"
	"ostiary/roll"
	"ostiary/rule"
	"ostiary/ticket"
)

// full returns hands that lack nothing.
func full(t *testing.T, symbolic bool) *order.Hands {
	t.Helper()
	b := box.New(symbolic)
	nonces, e1 := nonce.New(nonce.Config{Room: 4, Window: 10})
	g, e2 := guard.New(guard.Config{Room: 4, Base: 2, Most: 20, Hold: 10})
	keys, e3 := ring.New(b, []byte("master"), 3)
	desk, e4 := ticket.NewDesk(keys, 10)
	policy, e5 := rule.New()
	for _, e := range []api.Errno{e1, e2, e3, e4, e5} {
		if e != api.OK {
			t.Fatal(e)
		}
	}
	return &order.Hands{Box: b, Users: cred.New(), Nonces: nonces, Guard: g, Ring: keys, Tickets: desk, Policy: policy}
}

// stateOf tells all that can be seen of hands.
func stateOf(h *order.Hands) string {
	mark, marked := h.Nonces.Mark()
	epoch, key, there := h.Ring.Newest()
	var terms []string
	for n, x := range h.Box.Terms() {
		terms = append(terms, fmt.Sprint(n, x))
	}
	return fmt.Sprint(roll.Dump(h.Users), h.Users.Reads(), "\n",
		slices.Collect(h.Nonces.Entries()), mark, marked, h.Nonces.Serial(), "\n",
		slices.Collect(h.Guard.Entries()), "\n",
		slices.Collect(h.Ring.Epochs()), epoch, key, there, "\n",
		slices.Collect(h.Tickets.Revoked()), h.Tickets.Serial(), "\n",
		h.Policy.Text(), terms)
}

// runs checks the reply of a line that is to be executed.
func runs(t *testing.T, h *order.Hands, now uint64, line, want string) {
	t.Helper()
	if reply, e := h.Do(line, now); reply != want || e != api.OK {
		t.Errorf("%q: %q %d, not %q", line, reply, e, want)
	}
}

// fails checks that a line returns an error and changes nothing.
func fails(t *testing.T, h *order.Hands, now uint64, line string, want api.Errno) {
	t.Helper()
	before, reads := stateOf(h), h.Users.Reads()
	if reply, e := h.Do(line, now); reply != "" || e != want {
		t.Errorf("%.80q: %q %d, not %d", line, reply, e, want)
	}
	if strings.HasPrefix(line, "show-user") && h.Users.Reads() == reads+1 {
		return // which counts, though there is no such user
	}
	if stateOf(h) != before {
		t.Errorf("%.80q has changed something", line)
	}
}

// ann returns hands with the user ann of tenant t, who has generation 1.
func ann(t *testing.T, symbolic bool) *order.Hands {
	t.Helper()
	h := full(t, symbolic)
	runs(t, h, 0, "tenant-add t", "ok")
	runs(t, h, 0, `user-add t ann "pencil" 0102 4`, "ok")
	return h
}

// The example of the chapter.
func TestP24_2Example(t *testing.T) {
	h := ann(t, false)
	runs(t, h, 0, "show-user t ann", "1 on -")
}

func TestP24_2Tenants(t *testing.T) {
	h := full(t, false)
	runs(t, h, 0, "tenant-add t", "ok")
	fails(t, h, 0, "tenant-add t", api.ErrExists)
	fails(t, h, 0, "tenant-add T", api.ErrSign)
	fails(t, h, 0, `tenant-add ""`, api.ErrSign)
	for i := range 7 {
		runs(t, h, 0, fmt.Sprint("tenant-add u", i), "ok")
	}
	fails(t, h, 0, "tenant-add v", api.ErrFull)
	fails(t, h, 0, "tenant-drop v", api.ErrNone)
	runs(t, h, 0, "tenant-drop t", "ok")
	fails(t, h, 0, "tenant-drop t", api.ErrNone)
	if got := slices.Collect(h.Users.Tenants()); !slices.Equal(got, []string{"u0", "u1", "u2", "u3", "u4", "u5", "u6"}) {
		t.Error(got)
	}
}

// The secret is the one that layer 14 makes, of the arguments in their order.
func TestP24_2Users(t *testing.T) {
	for _, symbolic := range []bool{false, true} {
		h := full(t, symbolic)
		runs(t, h, 0, "tenant-add t", "ok")
		terms := h.Box.Len()
		runs(t, h, 0, "user-add t \"a\u00adnn\" \"p\u00a0w\" 00ff 3", "ok")
		twin := full(t, symbolic)
		want, e := cred.Make(twin.Box, "t", "ann", "p w", []byte{0, 255}, 3)
		c, ok := h.Users.Find("t", "ann")
		if !ok || e != api.OK || !reflect.DeepEqual(c.Secret, want) || c.Gen != 1 || len(c.Roles) != 0 || c.Revoked {
			t.Error(c, ok, e)
		}
		if symbolic && h.Box.Len() <= terms {
			t.Error("no terms")
		}
		runs(t, h, 0, "grant t ann dev", "ok")
		runs(t, h, 0, "user-pass t ann other 03 64", "ok")
		want, e = cred.Make(twin.Box, "t", "ann", "other", []byte{3}, 64)
		c, ok = h.Users.Find("t", "ann")
		if !ok || e != api.OK || !reflect.DeepEqual(c.Secret, want) || c.Gen != 3 || !slices.Equal(c.Roles, []string{"dev"}) {
			t.Error(c, ok, e)
		}
		runs(t, h, 0, "user-drop t \"a\u00adnn\"", "ok")
		if _, ok := h.Users.Find("t", "ann"); ok {
			t.Error("ann is still there")
		}
		fails(t, h, 0, "user-drop t ann", api.ErrNone)
		fails(t, h, 0, "user-drop u ann", api.ErrNone)
	}
}

// Both verbs with a password have the errors of what is written, then those of Make, then those of the store.
func TestP24_2UserErrors(t *testing.T) {
	salt32, salt33 := strings.Repeat("00", 32), strings.Repeat("00", 33)
	for _, c := range []struct {
		args      string
		add, pass api.Errno
	}{
		{"t ann pencil 0 4", api.ErrForm, api.ErrForm},
		{"t ann pencil 0A 4", api.ErrForm, api.ErrForm},
		{"t ann pencil 0x 4", api.ErrForm, api.ErrForm},
		{`t ann pencil " " 4`, api.ErrForm, api.ErrForm},
		{"t ann pencil 01 x", api.ErrForm, api.ErrForm},
		{`t ann pencil 01 ""`, api.ErrForm, api.ErrForm},
		{"t ann pencil 01 04", api.ErrForm, api.ErrForm},
		{"t ann pencil 01 00", api.ErrForm, api.ErrForm},
		{"t ann pencil 01 -1", api.ErrForm, api.ErrForm},
		{"t ann pencil 01 +4", api.ErrForm, api.ErrForm},
		{`t ann pencil 01 " 4"`, api.ErrForm, api.ErrForm},
		{"t ann pencil 01 0x4", api.ErrForm, api.ErrForm},
		{"t ann pencil 01 4.0", api.ErrForm, api.ErrForm},
		{"t ann pencil 01 9007199254740993", api.ErrForm, api.ErrForm},
		{"t ann pencil 01 18446744073709551620", api.ErrForm, api.ErrForm},
		{`T "" x 0 4`, api.ErrForm, api.ErrForm},
		{`T "" "" xx 04`, api.ErrForm, api.ErrForm},
		{`T "" "" 01 04`, api.ErrForm, api.ErrForm},
		{`T "" "" 0g 4`, api.ErrForm, api.ErrForm},
		{`T "" "" 01 4`, api.ErrSign, api.ErrSign},
		{`t "" "" 01 4`, api.ErrShort, api.ErrShort},
		{"t \"\xff\" pencil 01 4", api.ErrForm, api.ErrForm},
		{"t " + strings.Repeat("n", 33) + " pencil 01 4", api.ErrLong, api.ErrLong},
		{`t eve "" 01 4`, api.ErrShort, api.ErrShort},
		{"t eve " + strings.Repeat("p", 65) + " 01 4", api.ErrLong, api.ErrLong},
		{`t eve pencil "" 4`, api.ErrArg, api.ErrArg},
		{"t eve pencil " + salt33 + " 4", api.ErrArg, api.ErrArg},
		{"t eve pencil 01 0", api.ErrArg, api.ErrArg},
		{"t eve pencil 01 65", api.ErrArg, api.ErrArg},
		{"t eve pencil 01 1048576", api.ErrArg, api.ErrArg},
		{"t eve pencil 01 1048577", api.ErrArg, api.ErrArg},
		{"t eve pencil 01 4294967300", api.ErrArg, api.ErrArg},
		{"t eve pencil 01 9007199254740992", api.ErrArg, api.ErrArg},
		{"none ann pencil 01 4", api.ErrNone, api.ErrNone},
		{"t ann pencil " + salt32 + " 64", api.ErrExists, api.OK},
		{"t eve pencil " + salt32 + " 64", api.OK, api.ErrNone},
	} {
		for verb, want := range map[string]api.Errno{"user-add ": c.add, "user-pass ": c.pass} {
			h := ann(t, false)
			if want == api.OK {
				runs(t, h, 0, verb+c.args, "ok")
			} else {
				fails(t, h, 0, verb+c.args, want)
			}
		}
	}
	// Without a box, layer 14's error for that comes behind what is written wrongly.
	h := ann(t, false)
	h.Box = nil
	for _, verb := range []string{"user-add", "user-pass"} {
		fails(t, h, 0, verb+" T ann pencil 0 4", api.ErrForm)
		fails(t, h, 0, verb+" T ann pencil 01 -4", api.ErrForm)
		fails(t, h, 0, verb+" T ann pencil 01 4", api.ErrNone)
	}
}

// Make comes before the store, so its terms are there even if the store then says no.
func TestP24_2UserTerms(t *testing.T) {
	for _, line := range []string{"user-add none eve p 03 2", "user-add t ann p 03 2", "user-pass t eve p 03 2"} {
		h := ann(t, true)
		before := h.Box.Len()
		if reply, e := h.Do(line, 0); reply != "" || e == api.OK {
			t.Error(line, reply, e)
		}
		twin := ann(t, true)
		w := strings.Fields(line)
		if _, e := cred.Make(twin.Box, w[1], w[2], w[3], []byte{3}, 2); e != api.OK || twin.Box.Len() == before || stateOf(h) != stateOf(twin) {
			t.Error(line, h.Box.Len(), twin.Box.Len())
		}
	}
}

func TestP24_2Revoke(t *testing.T) {
	h := ann(t, false)
	runs(t, h, 0, "revoke t ann", "ok")
	runs(t, h, 0, "show-user t ann", "2 off -")
	runs(t, h, 0, "revoke t ann", "ok")
	runs(t, h, 0, "show-user t ann", "3 off -")
	runs(t, h, 0, "restore t ann", "ok")
	runs(t, h, 0, "show-user t ann", "4 on -")
	for _, verb := range []string{"revoke", "restore"} {
		fails(t, h, 0, verb+" t eve", api.ErrNone)
		fails(t, h, 0, verb+" ann t", api.ErrNone)
		fails(t, h, 0, verb+` t ""`, api.ErrNone)
	}
}

func TestP24_2Grant(t *testing.T) {
	h := ann(t, false)
	runs(t, h, 0, "grant t ann ops", "ok")
	runs(t, h, 0, "grant t ann dev", "ok")
	runs(t, h, 0, "show-user t ann", "3 on dev,ops")
	fails(t, h, 0, "grant t ann dev", api.ErrExists)
	fails(t, h, 0, "grant t ann Dev", api.ErrSign)
	fails(t, h, 0, "grant t dev ann", api.ErrNone)
	fails(t, h, 0, "ungrant t ann x", api.ErrDenied)
	fails(t, h, 0, `ungrant t ann ""`, api.ErrSign)
	fails(t, h, 0, "ungrant ann t dev", api.ErrNone)
	runs(t, h, 0, "ungrant t ann ops", "ok")
	runs(t, h, 0, "show-user t ann", "4 on dev")
	runs(t, h, 0, "ungrant t ann dev", "ok")
	runs(t, h, 0, "show-user t ann", "5 on -")
	for i := range 8 {
		runs(t, h, 0, fmt.Sprint("grant t ann r", i), "ok")
	}
	fails(t, h, 0, "grant t ann r8", api.ErrFull)
	runs(t, h, 0, "show-user t ann", "13 on r0,r1,r2,r3,r4,r5,r6,r7")
}

func TestP24_2ShowUser(t *testing.T) {
	h := ann(t, false)
	before := h.Users.Reads()
	runs(t, h, 0, "show-user t \"a\u00adnn\"", "1 on -")
	fails(t, h, 0, "show-user t eve", api.ErrNone)
	fails(t, h, 0, "show-user u ann", api.ErrNone)
	fails(t, h, 0, `show-user "" ""`, api.ErrNone)
	if h.Users.Reads() != before+4 {
		t.Error(h.Users.Reads() - before)
	}
	h.Users.Raise(1<<53 - 1)
	runs(t, h, 0, "revoke t ann", "ok")
	runs(t, h, 0, "show-user t ann", "9007199254740992 off -")
	fails(t, h, 0, "restore t ann", api.ErrFull)
}

// Only show-user asks the store for a user.
func TestP24_2Reads(t *testing.T) {
	h := ann(t, false)
	for _, line := range []string{
		"count", "grant t ann dev", "key-retire 1", "key-rotate", `policy ""`, "restore t ann", "revoke t ann", "show-keys", "show-policy", "source-clear s",
		"sweep", "tenant-add u", "tenant-drop u", "ticket-revoke 1", "ungrant t ann dev", "user-add t bob p 01 1", "user-pass t bob p 01 1", "user-drop t bob",
	} {
		h.Do(line, 0)
		if h.Users.Reads() != 0 {
			t.Fatal(line)
		}
	}
}

func TestP24_2Policy(t *testing.T) {
	h := full(t, false)
	runs(t, h, 0, "show-policy", "")
	runs(t, h, 0, `policy "# no db\ndeny * t db*.x 5432\n\nallow dev t * 1-9999"`, "ok")
	text := "deny * t db*.x 5432\nallow dev t * 1-9999\n"
	runs(t, h, 0, "show-policy", text)
	if h.Policy.May("dev", "t", "db1.x", 5432) || !h.Policy.May("dev", "t", "db1.y", 5432) {
		t.Error(h.Policy.Text())
	}
	fails(t, h, 0, "policy x", api.ErrForm)
	fails(t, h, 0, `policy "allow * * * *\nallow"`, api.ErrForm)
	fails(t, h, 0, `policy "`+strings.Repeat(`allow * * * *\n`, 33)+`"`, api.ErrFull)
	if reply, e := h.Run(order.Command{Verb: "policy", Args: []string{strings.Repeat("\n", 4097)}}, 0); reply != "" || e != api.ErrLong {
		t.Error(reply, e)
	}
	runs(t, h, 0, "show-policy", text)
	// Run takes what no line could say.
	if reply, e := h.Run(order.Command{Verb: "policy", Args: []string{strings.Repeat("\n", 4096)}}, 0); reply != "ok" || e != api.OK {
		t.Error(reply, e)
	}
	runs(t, h, 0, "show-policy", "")
	runs(t, h, 0, `policy ""`, "ok")
}

func TestP24_2Keys(t *testing.T) {
	h := full(t, false)
	runs(t, h, 0, "show-keys", "1")
	runs(t, h, 0, "key-rotate", "2")
	runs(t, h, 0, "key-rotate", "3")
	runs(t, h, 0, "show-keys", "1 2 3")
	runs(t, h, 0, "key-rotate", "4")
	runs(t, h, 0, "show-keys", "2 3 4")
	fails(t, h, 0, "key-retire 1", api.ErrKey)
	fails(t, h, 0, "key-retire 0", api.ErrKey)
	fails(t, h, 0, "key-retire 5", api.ErrKey)
	runs(t, h, 0, "key-retire 3", "ok")
	runs(t, h, 0, "key-retire 4", "ok")
	runs(t, h, 0, "show-keys", "2")
	runs(t, h, 0, "key-retire 2", "ok")
	runs(t, h, 0, "show-keys", "")
	runs(t, h, 0, "key-rotate", "5")
}

// What is a number, by the errors of the two verbs that take one.
func TestP24_2Numbers(t *testing.T) {
	most := new(big.Int).Lsh(big.NewInt(1), 53)
	for _, s := range []string{
		"0", "1", "9", "10", "99", "4294967296", "4294967297", "9007199254740991", "9007199254740992", "9007199254740993", "9007199254741000",
		"18446744073709551615", "18446744073709551616", "18446744073709551617", "99999999999999999999999", "00", "01", "-0", "-1", "+1", "", " 1", "1 ", "1_0", "0x1", "1e3", "1.", "a", "١", "\x00", "1\n",
	} {
		n, ok := new(big.Int).SetString(s, 10)
		ok = ok && n.String() == s && n.Sign() >= 0 && n.Cmp(most) <= 0
		h := full(t, false)
		key, gone := api.ErrForm, api.ErrForm
		if ok {
			key, gone = api.ErrKey, api.ErrNone
		}
		if s == "1" {
			key = api.OK
		}
		for verb, want := range map[string]api.Errno{"key-retire": key, "ticket-revoke": gone} {
			if _, e := h.Run(order.Command{Verb: verb, Args: []string{s}}, 0); e != want {
				t.Errorf("%s %q: %d, not %d", verb, s, e, want)
			}
		}
	}
}

func TestP24_2Tickets(t *testing.T) {
	h := full(t, false)
	who := api.Who{Tenant: "t", User: "ann", Role: "dev"}
	for range 3 {
		if _, _, e := h.Tickets.Mint(who, 1, 5); e != api.OK {
			t.Fatal(e)
		}
	}
	runs(t, h, 5, "ticket-revoke 2", "ok")
	fails(t, h, 5, "ticket-revoke 2", api.ErrSeen)
	fails(t, h, 5, "ticket-revoke 4", api.ErrNone)
	fails(t, h, 5, "ticket-revoke 0", api.ErrNone)
	runs(t, h, 5, "ticket-revoke 3", "ok")
	if got := slices.Collect(h.Tickets.Revoked()); !slices.Equal(got, []uint64{2, 3}) {
		t.Error(got)
	}
	runs(t, h, 14, "sweep", "0 0 0")
	runs(t, h, 15, "sweep", "0 0 2")
	fails(t, h, 15, "ticket-revoke 1", api.ErrNone)
}

func TestP24_2Sources(t *testing.T) {
	h := full(t, false)
	h.Guard.Enter("a", 0)
	h.Guard.Fail("a", 0)
	h.Guard.Enter("b c", 0)
	fails(t, h, 0, "source-clear x", api.ErrNone)
	fails(t, h, 0, `source-clear ""`, api.ErrForm)
	runs(t, h, 0, "source-clear a", "ok")
	fails(t, h, 0, "source-clear a", api.ErrNone)
	runs(t, h, 0, `source-clear "b c"`, "ok")
	if h.Guard.Len() != 0 {
		t.Error(h.Guard.Len())
	}
}

// The three numbers differ, and each is that of the time.
func TestP24_2Sweep(t *testing.T) {
	h := full(t, false)
	h.Nonces.Issue("a", 0)
	h.Nonces.Issue("b", 3)
	for _, s := range []string{"x", "y", "z"} {
		h.Guard.Enter(s, 0)
	}
	h.Tickets.Mint(api.Who{Tenant: "t", User: "ann", Role: "dev"}, 1, 0)
	h.Tickets.Revoke(1)
	runs(t, h, 9, "sweep", "0 0 0")
	runs(t, h, 10, "sweep", "0 3 1")
	runs(t, h, 11, "sweep", "1 0 0")
	runs(t, h, 1<<63, "sweep", "1 0 0")
	runs(t, h, 1<<63, "sweep", "0 0 0")
}

// The five numbers differ.
func TestP24_2Count(t *testing.T) {
	h := full(t, false)
	runs(t, h, 0, "count", "0 0 0 0 0")
	for _, line := range []string{"tenant-add t", "tenant-add u", "tenant-add v", "user-add t a p 01 1", "user-add t b p 01 1", "user-add u a p 01 1", "user-add u c p 01 1", "revoke u c"} {
		runs(t, h, 0, line, "ok")
	}
	h.Nonces.Issue("a", 0)
	h.Nonces.Issue("b", 0)
	h.Guard.Enter("s", 0)
	for range 5 {
		h.Tickets.Mint(api.Who{Tenant: "t", User: "ann", Role: "dev"}, 1, 0)
	}
	runs(t, h, 0, "count", "3 4 2 1 5")
	h.Tickets.Sweep(1000)
	runs(t, h, 0, "count", "3 4 2 1 5") // those that were issued
	runs(t, h, 0, "tenant-drop t", "ok")
	runs(t, h, 0, "count", "2 2 2 1 5")
	if h.Users.Reads() != 0 {
		t.Error("count reads users")
	}
}

// Run has the errors of Text for the verb and the arguments, and no others of Text.
func TestP24_2RunErrors(t *testing.T) {
	long := strings.Repeat("x", 5000)
	for _, c := range []struct {
		command order.Command
		want    api.Errno
	}{
		{order.Command{}, api.ErrNone},
		{order.Command{Verb: "help", Args: []string{"\x00"}}, api.ErrNone},
		{order.Command{Verb: "Count"}, api.ErrNone},
		{order.Command{Verb: " count"}, api.ErrNone},
		{order.Command{Verb: "count", Args: []string{""}}, api.ErrArg},
		{order.Command{Verb: "policy"}, api.ErrArg},
		{order.Command{Verb: "policy", Args: []string{"", ""}}, api.ErrArg},
		{order.Command{Verb: "user-add", Args: []string{"T", "", "", "x"}}, api.ErrArg},
		{order.Command{Verb: "tenant-add", Args: []string{"\x00"}}, api.ErrSign},
		{order.Command{Verb: "tenant-add", Args: []string{long}}, api.ErrSign},
		{order.Command{Verb: "tenant-drop", Args: []string{long}}, api.ErrNone},
		{order.Command{Verb: "source-clear", Args: []string{"\x00"}}, api.ErrForm},
	} {
		h := ann(t, false)
		before := stateOf(h)
		if reply, e := h.Run(c.command, 0); reply != "" || e != c.want || stateOf(h) != before {
			t.Errorf("%.80q: %q %d, not %d", c.command, reply, e, c.want)
		}
	}
	for _, v := range counts {
		for n := range 8 {
			h := ann(t, false)
			if _, e := h.Run(commandOf(v.verb, n), 0); (e == api.ErrArg) != (n != v.args) {
				t.Error(v.verb, n, e)
			}
		}
	}
}

func TestP24_2DoErrors(t *testing.T) {
	h := ann(t, false)
	fails(t, h, 0, "", api.ErrForm)
	fails(t, h, 0, "count ", api.ErrForm)
	fails(t, h, 0, "help", api.ErrNone)
	fails(t, h, 0, "count a", api.ErrArg)
	fails(t, h, 0, "tenant-add "+strings.Repeat("x", 4096), api.ErrLong)
	fails(t, h, 0, "tenant-add "+strings.Repeat("x", 4085), api.ErrSign)
	fails(t, h, 0, "tenant-add x\n", api.ErrForm)
}

// model executes a command by the table, on other hands.
func model(h *order.Hands, c order.Command, now uint64) (string, api.Errno) {
	a := append(slices.Clone(c.Args), "", "", "", "", "")
	n, isNumber := new(big.Int).SetString(a[0], 10)
	isNumber = isNumber && n.String() == a[0] && n.Sign() >= 0 && n.BitLen() <= 53
	secret := func() (cred.Secret, api.Errno) {
		rounds, ok := new(big.Int).SetString(a[4], 10)
		salt, err := hex.DecodeString(a[3])
		if !ok || err != nil || strings.ToLower(a[3]) != a[3] || rounds.String() != a[4] || rounds.Sign() < 0 || rounds.BitLen() > 53 {
			return cred.Secret{}, api.ErrForm
		}
		return cred.Make(h.Box, a[0], a[1], a[2], salt, int(rounds.Int64()))
	}
	e, reply := api.OK, "ok"
	switch c.Verb {
	case "tenant-add":
		e = h.Users.AddTenant(a[0])
	case "tenant-drop":
		e = h.Users.DropTenant(a[0])
	case "user-add", "user-pass":
		var x cred.Secret
		x, e = secret()
		if e == api.OK && c.Verb == "user-add" {
			e = h.Users.Add(a[0], a[1], x)
		} else if e == api.OK {
			e = h.Users.Change(a[0], a[1], x)
		}
	case "user-drop":
		e = h.Users.Drop(a[0], a[1])
	case "revoke", "restore":
		e = h.Users.Revoke(a[0], a[1], c.Verb == "revoke")
	case "grant":
		e = h.Users.Grant(a[0], a[1], a[2])
	case "ungrant":
		e = h.Users.Ungrant(a[0], a[1], a[2])
	case "policy":
		var p *rule.Policy
		if p, _, e = rule.Parse(a[0]); e == api.OK {
			h.Policy = p
		}
	case "key-rotate":
		var epoch uint64
		epoch, e = h.Ring.Rotate()
		reply = fmt.Sprint(epoch)
	case "key-retire", "ticket-revoke":
		switch {
		case !isNumber:
			e = api.ErrForm
		case c.Verb == "key-retire":
			e = h.Ring.Retire(n.Uint64())
		default:
			e = h.Tickets.Revoke(n.Uint64())
		}
	case "source-clear":
		e = h.Guard.Clear(a[0])
	case "sweep":
		nonces, sources := h.Nonces.Sweep(now), h.Guard.Sweep(now)
		reply = fmt.Sprint(nonces, sources, h.Tickets.Sweep(now))
	case "show-user":
		x, ok := h.Users.Find(a[0], a[1])
		on, roles := map[bool]string{false: "on", true: "off"}[x.Revoked], "-"
		if len(x.Roles) > 0 {
			roles = strings.Join(x.Roles, ",")
		}
		if reply = fmt.Sprint(x.Gen, " ", on, " ", roles); !ok {
			e = api.ErrNone
		}
	case "show-policy":
		reply = h.Policy.Text()
	case "show-keys":
		reply = strings.Trim(fmt.Sprint(slices.Collect(h.Ring.Epochs())), "[]")
	case "count":
		tenants, users := 0, 0
		for tenant := range h.Users.Tenants() {
			tenants++
			users += len(slices.Collect(h.Users.Users(tenant)))
		}
		reply = fmt.Sprint(tenants, users, h.Nonces.Len(), h.Guard.Len(), h.Tickets.Serial())
	}
	if e != api.OK {
		reply = ""
	}
	return reply, e
}

// someCommand returns a command whose arguments often fit it.
func someCommand(r *rand.Rand, verbs []verb) order.Command {
	v := verbs[r.Intn(len(verbs))]
	c := order.Command{Verb: v.verb}
	one := func(l ...string) string { return l[r.Intn(len(l))] }
	for i := range v.args {
		arg := ""
		switch {
		case v.verb == "key-retire" || v.verb == "ticket-revoke":
			arg = one("0", "1", "2", "3", "4", "5", "9007199254740993", "x")
		case v.verb == "source-clear":
			arg = one("s", "s2", "", "ü")
		case v.verb == "policy":
			arg = one("", "allow dev t * 80\n", "deny * * bad* *\nallow ops * db 1-9999", "x", "#\n\n")
		case i == 0:
			arg = one("t", "t", "t", "t", "u", "none", "T")
			if v.verb == "tenant-drop" {
				arg = one("u", "u", "u", "u", "t")
			}
		case i == 1:
			arg = one("ann", "ann", "bob", "a\u00adnn", "", "\xff", "a b")
		case i == 2:
			arg = one("dev", "ops", "dev", "Dev", "")
		case i == 3:
			arg = one("01", "0203", "01", "0203", "", "A0", "1")
		default:
			arg = one("1", "4", "2", "3", "64", "65", "1048577", "0", "01")
		}
		c.Args = append(c.Args, arg)
	}
	return c
}

// Random commands on two hands, of which one is worked by the table; in between other things happen to both.
func TestP24_2Random(t *testing.T) {
	r := rand.New(rand.NewSource(242))
	succeeded := map[string]int{}
	for round := range 200 {
		verbs := counts
		if round%4 > 1 { // more often what is rarely possible
			verbs = slices.DeleteFunc(slices.Clone(counts), func(v verb) bool { return v.args < 2 || v.verb == "user-drop" })
		}
		h, twin := ann(t, round%2 == 1), ann(t, round%2 == 1)
		now := uint64(0)
		for step := range 60 {
			switch r.Intn(8) {
			case 0:
				now += uint64(r.Intn(6))
			case 1:
				for _, x := range []*order.Hands{h, twin} {
					x.Nonces.Issue(fmt.Sprint("d", step), now)
					x.Guard.Enter("s", now)
					x.Guard.Enter("s2", now)
				}
			case 2:
				for _, x := range []*order.Hands{h, twin} {
					x.Tickets.Mint(api.Who{Tenant: "t", User: "ann", Role: "dev"}, 1, now)
					x.Guard.Fail("s", now)
				}
			}
			c := someCommand(r, verbs)
			kept := slices.Clone(c.Args)
			want, errno := model(twin, c, now)
			var reply string
			var e api.Errno
			if line, bad := c.Text(); bad == api.OK && r.Intn(2) == 0 {
				reply, e = h.Do(line, now)
			} else {
				reply, e = h.Run(c, now)
			}
			if reply != want || e != errno || !slices.Equal(c.Args, kept) {
				t.Fatalf("%q: %q %d, not %q %d", c, reply, e, want, errno)
			}
			if got, want := stateOf(h), stateOf(twin); got != want {
				t.Fatalf("%q: %s\nnot\n%s", c, got, want)
			}
			if e == api.OK {
				succeeded[c.Verb]++
			}
		}
	}
	for _, v := range counts {
		if succeeded[v.verb] < 20 {
			t.Error(v.verb, "succeeded only", succeeded[v.verb], "times")
		}
	}
}
