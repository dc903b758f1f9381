package nonce_test

import (
	"fmt"
	"math"
	"math/rand"
	"slices"
	"strings"
	"testing"

	"ostiary/api"
	"ostiary/nonce"
)

const most = 1 << 40 // the largest tick

// model is a slow reading of the chapter: the nonces in a row, the oldest first, and the draw of each.
type model struct {
	room    int
	window  uint64
	entries []nonce.Entry
	draws   []string
	serial  uint64
	last    uint64
	mark    uint64
	marked  bool
}

func (m *model) old(e nonce.Entry, now uint64) bool {
	return now > e.At && now-e.At > m.window
}

func (m *model) ruledOut(e nonce.Entry) bool {
	return m.marked && e.At <= m.mark
}

// remove takes out the entry at that place.
func (m *model) remove(i int) {
	m.entries = slices.Delete(m.entries, i, i+1)
	m.draws = slices.Delete(m.draws, i, i+1)
}

func (m *model) sweep(now uint64) int {
	removed := 0
	for i := len(m.entries) - 1; i >= 0; i-- {
		if m.old(m.entries[i], now) || m.ruledOut(m.entries[i]) {
			m.remove(i)
			removed++
		}
	}
	return removed
}

// drawable reports whether a draw is valid.
func drawable(draw string) bool {
	for _, b := range []byte(draw) {
		if b < 0x21 || b > 0x7e || b == ',' {
			return false
		}
	}
	return len(draw) >= 1 && len(draw) <= 40
}

func (m *model) issue(draw string, now uint64) (string, api.Errno) {
	if !drawable(draw) {
		return "", api.ErrForm
	}
	if now < m.last {
		return "", api.ErrLate
	}
	if slices.Contains(m.draws, draw) {
		return "", api.ErrExists
	}
	if len(m.entries) == m.room && m.sweep(now) == 0 {
		m.mark = max(m.mark, m.entries[0].At)
		m.marked = true
		m.remove(0)
	}
	m.last = now
	m.serial++
	text := fmt.Sprintf("%s.%016x", draw, m.serial)
	m.entries = append(m.entries, nonce.Entry{Nonce: text, At: now})
	m.draws = append(m.draws, draw)
	return text, api.OK
}

// find returns the entry of a nonce, or nil and the error of Check.
func (m *model) find(text string, now uint64) (*nonce.Entry, api.Errno) {
	for i := range m.entries {
		e := &m.entries[i]
		if e.Nonce != text {
			continue
		}
		if m.old(*e, now) || e.At > now || m.ruledOut(*e) {
			return nil, api.ErrLate
		}
		return e, api.OK
	}
	return nil, api.ErrNone
}

func (m *model) check(text string, now uint64) api.Errno {
	_, errno := m.find(text, now)
	return errno
}

func (m *model) spend(text string, now uint64) api.Errno {
	e, errno := m.find(text, now)
	if e == nil {
		return errno
	}
	if e.Spent || e.Count > 0 {
		return api.ErrSeen
	}
	e.Spent = true
	return api.OK
}

func (m *model) use(text string, count uint32, now uint64) api.Errno {
	e, errno := m.find(text, now)
	if e == nil {
		return errno
	}
	if count == 0 {
		return api.ErrArg
	}
	if e.Spent || e.Count >= count {
		return api.ErrSeen
	}
	e.Count = count
	return api.OK
}

// made returns a new store.
func made(t *testing.T, room int, window uint64) *nonce.Store {
	t.Helper()
	s, e := nonce.New(nonce.Config{Room: room, Window: window})
	if s == nil || e != api.OK {
		t.Fatal("a store for", room, "nonces and a window of", window, "ticks:", e)
	}
	return s
}

// issued returns a new nonce.
func issued(t *testing.T, s *nonce.Store, draw string, now uint64) string {
	t.Helper()
	text, e := s.Issue(draw, now)
	if text == "" || e != api.OK {
		t.Fatalf("a nonce for %q at %d: %q, %d", draw, now, text, e)
	}
	return text
}

// expect checks everything that a store tells about itself.
func expect(t *testing.T, s *nonce.Store, m *model) {
	t.Helper()
	if got := slices.Collect(s.Entries()); !slices.Equal(got, m.entries) {
		t.Fatalf("%v, not %v", got, m.entries)
	}
	mark, marked := s.Mark()
	if s.Len() != len(m.entries) || s.Serial() != m.serial || mark != m.mark || marked != m.marked {
		t.Fatalf("%d nonces, serial %d, mark %d, %t, not %+v", s.Len(), s.Serial(), mark, marked, *m)
	}
}

// holds checks that the store has nonces with these draws, the oldest first, and that mark. A mark of -1 is unset.
func holds(t *testing.T, s *nonce.Store, draws string, mark int) {
	t.Helper()
	got := ""
	for e := range s.Entries() {
		got += e.Nonce[:1]
	}
	at, ok := s.Mark()
	if got != draws || s.Len() != len(draws) || ok != (mark >= 0) || at != uint64(max(mark, 0)) {
		t.Fatalf("%d nonces, with the draws %s, and the mark %d, %t, not %s and %d", s.Len(), got, at, ok, draws, mark)
	}
}

// refuses checks that a store issues no nonce, and that nothing of it changes.
func refuses(t *testing.T, s *nonce.Store, draw string, now uint64, want api.Errno) {
	t.Helper()
	before, serial := slices.Collect(s.Entries()), s.Serial()
	mark, marked := s.Mark()
	if text, e := s.Issue(draw, now); text != "" || e != want {
		t.Fatalf("draw %q at %d: %q, %d, not %d", draw, now, text, e, want)
	}
	m := &model{entries: before, serial: serial, mark: mark, marked: marked}
	expect(t, s, m)
}

func TestP12_1New(t *testing.T) {
	for _, room := range []int{1, 2, 17, 63, 64} {
		for _, window := range []uint64{1, 2, 5, most / 2, most - 1, most} {
			s := made(t, room, window)
			expect(t, s, &model{})
			for i := range room {
				issued(t, s, fmt.Sprint("d", i), 0)
				if _, marked := s.Mark(); marked || s.Len() != i+1 {
					t.Fatal(room, i, s.Len())
				}
			}
			issued(t, s, "more", 0)
			if mark, marked := s.Mark(); !marked || mark != 0 || s.Len() != room {
				t.Fatal(room, s.Len())
			}
		}
	}
}

func TestP12_1NewInvalid(t *testing.T) {
	for _, room := range []int{0, -1, 65, 66, 128, 4096, 4097, math.MaxInt, math.MinInt, 1 << 32} {
		for _, window := range []uint64{0, 1, most, most + 1} {
			if s, e := nonce.New(nonce.Config{Room: room, Window: window}); s != nil || e != api.ErrArg {
				t.Error(room, window, e)
			}
		}
	}
	for _, window := range []uint64{0, most + 1, most + 2, 2 * most, 1 << 63, math.MaxUint64} {
		for _, room := range []int{1, 2, 64} {
			if s, e := nonce.New(nonce.Config{Room: room, Window: window}); s != nil || e != api.ErrArg {
				t.Error(room, window, e)
			}
		}
	}
}

func TestP12_1Example(t *testing.T) {
	s := made(t, 1, 5)
	a, e := s.Issue("a", 0)
	if a != "a.0000000000000001" || e != api.OK {
		t.Fatal(a, e)
	}
	if b, e := s.Issue("b", 3); b != "b.0000000000000002" || e != api.OK {
		t.Fatal(b, e)
	}
	if mark, ok := s.Mark(); mark != 0 || !ok {
		t.Error(mark, ok)
	}
	if e := s.Check(a, 3); e != api.ErrNone {
		t.Error(e)
	}
}

// The serial number increases by one with each nonce, whatever becomes of the nonces, and is written with 16 digits.
func TestP12_1Serial(t *testing.T) {
	s := made(t, 1, 5)
	for i := uint64(1); i <= 70000; i++ {
		if got, want := issued(t, s, "x", 2*i*5), fmt.Sprintf("x.%016x", i); got != want || s.Serial() != i {
			t.Fatal(got, want, s.Serial())
		}
		if s.Sweep(2*i*5+6) != 1 {
			t.Fatal(i)
		}
		if text, e := s.Issue("", 2*i*5); text != "" || e != api.ErrForm {
			t.Fatal(text, e)
		}
	}
}

func TestP12_1Draws(t *testing.T) {
	bases := []string{"", "a", "ab", strings.Repeat("z", 38), strings.Repeat("~", 39), strings.Repeat("!", 40)}
	for _, base := range bases {
		for at := range min(len(base), 3) + 1 {
			for b := range 256 {
				draw := base[:at] + string([]byte{byte(b)}) + base[at:]
				s := made(t, 2, 5)
				text, e := s.Issue(draw, 7)
				want := &model{room: 2, window: 5}
				wantText, wantErrno := want.issue(draw, 7)
				if text != wantText || e != wantErrno {
					t.Fatalf("draw %q: %q, %d", draw, text, e)
				}
				expect(t, s, want)
				if e == api.OK && s.Check(text, 7) != api.OK {
					t.Fatalf("draw %q is not found", draw)
				}
			}
		}
	}
}

func TestP12_1DrawLengths(t *testing.T) {
	for n := range 100 {
		want := api.OK
		if n == 0 || n > 40 {
			want = api.ErrForm
		}
		draw := strings.Repeat("d", n)
		text, e := made(t, 1, 1).Issue(draw, 0)
		if e != want || e == api.OK && text != draw+".0000000000000001" || e != api.OK && text != "" {
			t.Fatal(n, text, e)
		}
	}
	for _, draw := range []string{"\u00e9", "\xff", "a b", "a,b", "a\n", "\x00", strings.Repeat("d", 5000)} {
		if text, e := made(t, 1, 1).Issue(draw, 0); text != "" || e != api.ErrForm {
			t.Errorf("%q: %q, %d", draw, text, e)
		}
	}
}

// A draw may look like a nonce, or like the beginning of one.
func TestP12_1DrawsWithDots(t *testing.T) {
	s := made(t, 9, 5)
	var all []string
	for i, draw := range []string{".", "a", "a.", "a.0000000000000002", ".0000000000000005", "a.b", "a.0000000000000002.00000000000000", "0000000000000008"} {
		text := issued(t, s, draw, 0)
		if want := fmt.Sprintf("%s.%016x", draw, i+1); text != want {
			t.Fatal(text, want)
		}
		all = append(all, text)
	}
	for i, text := range all {
		if e := s.Spend(text, 0); e != api.OK {
			t.Fatal(text, e)
		}
		for j, e := range slices.Collect(s.Entries()) {
			if e.Nonce != all[j] || e.Spent != (j <= i) {
				t.Fatal(text, e)
			}
		}
	}
}

// The errors come in the order ErrForm, ErrLate, ErrExists.
func TestP12_1Order(t *testing.T) {
	s := made(t, 3, 5)
	issued(t, s, "a", 10)
	refuses(t, s, "", 10, api.ErrForm)
	refuses(t, s, "", 9, api.ErrForm)
	refuses(t, s, "a,", 9, api.ErrForm)
	refuses(t, s, "a", 9, api.ErrLate)
	refuses(t, s, "b", 9, api.ErrLate)
	refuses(t, s, "b", 0, api.ErrLate)
	refuses(t, s, "a", 10, api.ErrExists)
	refuses(t, s, "a", 11, api.ErrExists)
	issued(t, s, "b", 10)
}

// Only a call of Issue that succeeds makes earlier times late.
func TestP12_1Late(t *testing.T) {
	s := made(t, 2, 5)
	refuses(t, s, "", 100, api.ErrForm)
	a := issued(t, s, "a", 3)
	refuses(t, s, "a", 100, api.ErrExists)
	refuses(t, s, "b,", 100, api.ErrForm)
	s.Check(a, 100)
	s.Spend(a, 100)
	s.Use(a, 1, 100)
	refuses(t, s, "b", 2, api.ErrLate)
	issued(t, s, "b", 3)
	if s.Sweep(100) != 2 {
		t.Fatal(s.Len())
	}
	// The time of the last issue outlasts the nonces.
	refuses(t, s, "c", 2, api.ErrLate)
	refuses(t, s, "c", 0, api.ErrLate)
	issued(t, s, "c", 3)
	issued(t, s, "d", most)
	refuses(t, s, "e", most-1, api.ErrLate)
	issued(t, s, "e", most)
}

// A draw exists as long as the store contains its nonce, whether that can still be used or not.
func TestP12_1Exists(t *testing.T) {
	s := made(t, 2, 5)
	a := issued(t, s, "a", 0)
	b := issued(t, s, "b", 0)
	if s.Spend(a, 0) != api.OK || s.Use(b, 3, 0) != api.OK {
		t.Fatal(a, b)
	}
	refuses(t, s, "a", 1, api.ErrExists)
	refuses(t, s, "b", 1, api.ErrExists)
	// The store is full, and both nonces are too old, but the draw is looked at before anything is removed.
	refuses(t, s, "a", 6, api.ErrExists)
	issued(t, s, "c", 6)
	holds(t, s, "c", -1)
	a = issued(t, s, "a", 6)
	if s.Spend(a, 6) != api.OK {
		t.Fatal(a)
	}
	// A nonce that the mark rules out is still there.
	issued(t, s, "d", 6)
	holds(t, s, "ad", 6)
	refuses(t, s, "a", 6, api.ErrExists)
	refuses(t, s, "d", 6, api.ErrExists)
	issued(t, s, "c", 6)
	holds(t, s, "c", 6)
}

// Letter case matters, and so does every other byte of a draw.
func TestP12_1ExistsExactly(t *testing.T) {
	s := made(t, 8, 5)
	for _, draw := range []string{"ab", "Ab", "a", "abc", "ab.", "b", "aB"} {
		issued(t, s, draw, 0)
	}
	for _, draw := range []string{"ab", "Ab", "a", "abc", "ab.", "b", "aB"} {
		refuses(t, s, draw, 0, api.ErrExists)
	}
}

// A store that is not full keeps nonces that are too old.
func TestP12_1NotFull(t *testing.T) {
	s := made(t, 4, 5)
	issued(t, s, "a", 0)
	issued(t, s, "b", 50)
	issued(t, s, "c", 100)
	issued(t, s, "d", 200)
	holds(t, s, "abcd", -1)
	issued(t, s, "e", 205)
	holds(t, s, "de", -1)
}

// A full store first loses all nonces that are too old, and then there is no need for a mark.
func TestP12_1FullSweeps(t *testing.T) {
	for _, c := range []struct {
		now   uint64
		draws string
		mark  int
	}{
		{12, "bcdn", 0},
		{15, "bcdn", 0},
		{16, "bcdn", 0}, // 0 is 16 ticks before, but the window is 16
		{17, "bcdn", -1},
		{20, "bcdn", -1},
		{21, "dn", -1},
		{27, "dn", -1},
		{28, "n", -1},
		{1000, "n", -1},
	} {
		s := made(t, 4, 16)
		issued(t, s, "a", 0)
		issued(t, s, "b", 4)
		issued(t, s, "c", 4)
		issued(t, s, "d", 11)
		issued(t, s, "n", c.now)
		holds(t, s, c.draws, c.mark)
	}
}

// Nonces that were spent or used take room like the others.
func TestP12_1FullSpent(t *testing.T) {
	s := made(t, 2, 50)
	a := issued(t, s, "a", 0)
	b := issued(t, s, "b", 1)
	if s.Spend(b, 1) != api.OK {
		t.Fatal(b)
	}
	issued(t, s, "c", 2)
	holds(t, s, "bc", 0)
	if s.Check(a, 2) != api.ErrNone || s.Check(b, 2) != api.OK {
		t.Fatal(a, b)
	}
}

// The mark rules out all nonces that were issued at the same time as the one that was removed, also later ones.
func TestP12_1Mark(t *testing.T) {
	s := made(t, 3, 50)
	issued(t, s, "a", 5)
	b := issued(t, s, "b", 5)
	c := issued(t, s, "c", 6)
	d := issued(t, s, "d", 6)
	holds(t, s, "bcd", 5)
	if s.Check(b, 6) != api.ErrLate || s.Check(c, 6) != api.OK || s.Check(d, 6) != api.OK {
		t.Fatal(s.Check(b, 6), s.Check(c, 6), s.Check(d, 6))
	}
	// The one that the mark rules out is removed before any other, and the mark stays.
	e := issued(t, s, "e", 6)
	holds(t, s, "cde", 5)
	f := issued(t, s, "f", 6)
	holds(t, s, "def", 6)
	for _, text := range []string{d, e, f} {
		if s.Check(text, 6) != api.ErrLate || s.Spend(text, 6) != api.ErrLate || s.Use(text, 1, 6) != api.ErrLate {
			t.Fatal(text)
		}
	}
	g := issued(t, s, "g", 7)
	holds(t, s, "g", 6)
	if s.Check(g, 7) != api.OK {
		t.Fatal(s.Check(g, 7))
	}
}

func TestP12_2Check(t *testing.T) {
	for _, at := range []uint64{0, 1, 5, 1000, most - 10, most - 5} {
		for _, window := range []uint64{1, 2, 5} {
			s := made(t, 2, window)
			text := issued(t, s, "a", at)
			for now := at - min(at, 7); now <= at+7 && now <= most; now++ {
				want := api.OK
				if now < at || now-at > window {
					want = api.ErrLate
				}
				if e := s.Check(text, now); e != want {
					t.Fatalf("issued at %d, window %d, now %d: %d", at, window, now, e)
				}
			}
			if s.Check(text, at) != api.OK || s.Len() != 1 {
				t.Fatal("a check changed something")
			}
		}
	}
	s := made(t, 1, most)
	text := issued(t, s, "a", 0)
	if s.Check(text, most) != api.OK || s.Check(text, most-1) != api.OK {
		t.Fatal(s.Check(text, most))
	}
}

// Check doesn't ask whether a nonce was spent or used.
func TestP12_2CheckSpent(t *testing.T) {
	s := made(t, 2, 5)
	a, b := issued(t, s, "a", 0), issued(t, s, "b", 0)
	if s.Spend(a, 0) != api.OK || s.Use(b, math.MaxUint32, 0) != api.OK {
		t.Fatal(a, b)
	}
	if s.Check(a, 5) != api.OK || s.Check(b, 5) != api.OK || s.Check(a, 6) != api.ErrLate {
		t.Fatal(s.Check(a, 5), s.Check(b, 5))
	}
}

func TestP12_2Unknown(t *testing.T) {
	s := made(t, 20, 5)
	for i := range 11 {
		issued(t, s, fmt.Sprint("d", i), 0)
	}
	for _, text := range []string{
		"", ".", "d9", "d9.", "0000000000000001", ".0000000000000001", "d0.0000000000000002", "d0.1", "d0.000000000000001", "d0.00000000000000001",
		"d0.0000000000000001 ", " d0.0000000000000001", "d0:0000000000000001", "d00000000000000001", "d0,0000000000000001", "D0.0000000000000001",
		"d9.000000000000000A", "d9.000000000000000a.", "d9.000000000000000b", "d11.000000000000000c", "d0.0000000000000000", "x.0000000000000001",
		"d0.0000000000000001\x00", "d9.00000000000000\x00a", strings.Repeat("d", 5000), strings.Repeat("d0.0000000000000001", 2),
	} {
		for _, now := range []uint64{0, 5, 6} {
			if e := s.Check(text, now); e != api.ErrNone {
				t.Errorf("check of %q: %d", text, e)
			}
			if e := s.Spend(text, now); e != api.ErrNone {
				t.Errorf("spending of %q: %d", text, e)
			}
			for _, count := range []uint32{0, 1} {
				if e := s.Use(text, count, now); e != api.ErrNone {
					t.Errorf("use of %q: %d", text, e)
				}
			}
		}
	}
	if s.Check("d0.0000000000000001", 0) != api.OK || s.Check("d9.000000000000000a", 0) != api.OK {
		t.Error("a nonce is not found")
	}
}

func TestP12_2Spend(t *testing.T) {
	s := made(t, 3, 5)
	a, b, c := issued(t, s, "a", 1), issued(t, s, "b", 1), issued(t, s, "c", 1)
	for _, x := range []struct {
		text string
		now  uint64
		want api.Errno
	}{
		{a, 0, api.ErrLate}, {a, 7, api.ErrLate}, {a, 6, api.OK}, {a, 6, api.ErrSeen}, {a, 1, api.ErrSeen},
		{a, 0, api.ErrLate}, {a, 7, api.ErrLate}, {b, 1, api.OK}, {b, 1, api.ErrSeen}, {a, 6, api.ErrSeen},
	} {
		if e := s.Spend(x.text, x.now); e != x.want {
			t.Fatal(x, e)
		}
	}
	want := []nonce.Entry{{Nonce: a, At: 1, Spent: true}, {Nonce: b, At: 1, Spent: true}, {Nonce: c, At: 1}}
	if got := slices.Collect(s.Entries()); !slices.Equal(got, want) {
		t.Fatal(got)
	}
	if e := s.Use(c, 1, 1); e != api.OK {
		t.Fatal(e)
	}
	if e := s.Spend(c, 1); e != api.ErrSeen {
		t.Fatal(e)
	}
	want[2].Count = 1
	if got := slices.Collect(s.Entries()); !slices.Equal(got, want) {
		t.Fatal(got)
	}
}

func TestP12_2Use(t *testing.T) {
	s := made(t, 3, 5)
	a, b := issued(t, s, "a", 1), issued(t, s, "b", 1)
	if s.Spend(b, 1) != api.OK {
		t.Fatal(b)
	}
	for _, x := range []struct {
		text  string
		count uint32
		now   uint64
		want  api.Errno
		after uint32 // the count of a
	}{
		{a, 0, 1, api.ErrArg, 0},
		{a, 0, 0, api.ErrLate, 0},
		{a, 0, 7, api.ErrLate, 0},
		{a, 1, 7, api.ErrLate, 0},
		{a, 1, 1, api.OK, 1},
		{a, 1, 1, api.ErrSeen, 1},
		{a, 0, 1, api.ErrArg, 1},
		{a, 2, 0, api.ErrLate, 1},
		{a, 2, 6, api.OK, 2},
		{a, 1, 1, api.ErrSeen, 2},
		{a, 7, 1, api.OK, 7},
		{a, 7, 1, api.ErrSeen, 7},
		{a, 6, 1, api.ErrSeen, 7},
		{a, 3, 1, api.ErrSeen, 7},
		{a, 8, 1, api.OK, 8},
		{a, math.MaxUint32, 1, api.OK, math.MaxUint32},
		{a, math.MaxUint32, 1, api.ErrSeen, math.MaxUint32},
		{a, math.MaxUint32 - 1, 1, api.ErrSeen, math.MaxUint32},
		{a, 0, 1, api.ErrArg, math.MaxUint32},
		{b, 0, 1, api.ErrArg, math.MaxUint32},
		{b, 1, 1, api.ErrSeen, math.MaxUint32},
		{b, math.MaxUint32, 6, api.ErrSeen, math.MaxUint32},
		{b, 1, 7, api.ErrLate, math.MaxUint32},
	} {
		if e := s.Use(x.text, x.count, x.now); e != x.want {
			t.Fatal(x, e)
		}
		want := []nonce.Entry{{Nonce: a, At: 1, Count: x.after}, {Nonce: b, At: 1, Spent: true}}
		if got := slices.Collect(s.Entries()); !slices.Equal(got, want) {
			t.Fatal(x, got)
		}
	}
}

func TestP12_3Sweep(t *testing.T) {
	for now, want := range map[uint64]int{0: 0, 5: 0, 6: 1, 7: 1, 8: 3, 9: 3, 14: 3, 15: 4, 16: 4, most: 4} {
		s := made(t, 5, 5)
		a := issued(t, s, "a", 0)
		issued(t, s, "b", 2)
		issued(t, s, "c", 2)
		issued(t, s, "d", 9)
		s.Spend(a, 0)
		if n := s.Sweep(now); n != want {
			t.Fatal(now, n)
		}
		holds(t, s, "abcd"[want:], -1)
		if n := s.Sweep(now); n != 0 || s.Serial() != 4 {
			t.Fatal(now, n)
		}
		if e := s.Check(a, 0); (e == api.OK) != (want == 0) {
			t.Fatal(now, e)
		}
	}
}

// Nonces that were issued after the time of the sweep are not too old.
func TestP12_3SweepBefore(t *testing.T) {
	s := made(t, 3, 5)
	issued(t, s, "a", 10)
	issued(t, s, "b", 20)
	issued(t, s, "c", most)
	for _, now := range []uint64{0, 4, 9, 15} {
		if n := s.Sweep(now); n != 0 {
			t.Fatal(now, n)
		}
	}
	if n := s.Sweep(16); n != 1 {
		t.Fatal(n)
	}
	holds(t, s, "bc", -1)
}

// What the mark rules out is removed at any time.
func TestP12_3SweepMark(t *testing.T) {
	for _, now := range []uint64{0, 4, 5, 6, 7} {
		s := made(t, 4, 50)
		for _, draw := range []string{"a", "b", "c"} {
			issued(t, s, draw, 5)
		}
		issued(t, s, "d", 6)
		issued(t, s, "e", 6)
		holds(t, s, "bcde", 5)
		if n := s.Sweep(now); n != 2 {
			t.Fatal(now, n)
		}
		holds(t, s, "de", 5)
	}
}

// The mark stays where it is until a nonce is removed that was issued later.
func TestP12_3Mark(t *testing.T) {
	s := made(t, 2, 10)
	for _, x := range []struct {
		draw  string
		now   uint64
		mark  int
		draws string
	}{
		{"a", 3, -1, "a"}, {"b", 4, -1, "ab"}, {"c", 5, 3, "bc"}, {"d", 15, 3, "cd"}, {"e", 15, 5, "de"},
		{"f", 40, 5, "f"}, {"g", 40, 5, "fg"}, {"h", 41, 40, "gh"}, {"i", 41, 40, "hi"}, {"j", 42, 41, "ij"},
	} {
		issued(t, s, x.draw, x.now)
		holds(t, s, x.draws, x.mark)
	}
	if s.Sweep(1000) != 2 {
		t.Fatal(s.Len())
	}
	holds(t, s, "", 41)
}

func TestP12_3Entries(t *testing.T) {
	s := made(t, 3, 50)
	entries := s.Entries()
	if got := slices.Collect(entries); len(got) != 0 {
		t.Fatal(got)
	}
	a, b, c := issued(t, s, "z", 1), issued(t, s, "y", 2), issued(t, s, "x", 2)
	// The order is that of the issue, whatever is done with the nonces.
	if s.Use(a, 4, 2) != api.OK || s.Spend(b, 2) != api.OK {
		t.Fatal(a, b)
	}
	want := []nonce.Entry{{Nonce: a, At: 1, Count: 4}, {Nonce: b, At: 2, Spent: true}, {Nonce: c, At: 2}}
	for range 2 {
		if got := slices.Collect(entries); !slices.Equal(got, want) {
			t.Fatal(got)
		}
	}
	for n := 1; n <= 3; n++ {
		var got []nonce.Entry
		entries(func(e nonce.Entry) bool {
			got = append(got, e)
			return len(got) < n
		})
		if !slices.Equal(got, want[:n]) {
			t.Fatal(n, got)
		}
	}
	issued(t, s, "w", 3)
	if got := slices.Collect(entries); len(got) != 3 || got[0] != want[1] {
		t.Fatal(got)
	}
}

func TestP12_3Nil(t *testing.T) {
	var s *nonce.Store
	for _, draw := range []string{"a", "", "a,b"} {
		if text, e := s.Issue(draw, 1); text != "" || e != api.ErrNone {
			t.Error(text, e)
		}
	}
	for _, text := range []string{"", "a.0000000000000001"} {
		if s.Check(text, 1) != api.ErrNone || s.Spend(text, 1) != api.ErrNone || s.Use(text, 0, 1) != api.ErrNone || s.Use(text, 1, 1) != api.ErrNone {
			t.Error(text)
		}
	}
	if mark, ok := s.Mark(); mark != 0 || ok {
		t.Error(mark, ok)
	}
	if s.Sweep(5) != 0 || s.Serial() != 0 || s.Len() != 0 {
		t.Error(s.Serial(), s.Len())
	}
	entries := s.Entries()
	if entries == nil {
		t.Fatal("a nil iterator")
	}
	for e := range entries {
		t.Error(e)
	}
}

// Each store has nonces of its own.
func TestP12_3TwoStores(t *testing.T) {
	x, y := made(t, 1, 5), made(t, 2, 5)
	a, b := issued(t, x, "a", 7), issued(t, y, "a", 0)
	if a != b || x.Spend(a, 7) != api.OK || y.Check(b, 0) != api.OK || y.Spend(b, 0) != api.OK {
		t.Fatal(a, b)
	}
	issued(t, x, "b", 8)
	holds(t, x, "b", 7)
	holds(t, y, "a", -1)
}

// What became of a nonce that was removed can't be told any more, but it isn't accepted.
func TestP12_4Removed(t *testing.T) {
	s := made(t, 1, 5)
	var all []string
	for now := range uint64(40) {
		if text, e := s.Issue("a", now); e == api.OK {
			all = append(all, text)
		}
		for _, text := range all[:len(all)-1] {
			if s.Check(text, now) != api.ErrNone || s.Spend(text, now) != api.ErrNone || s.Use(text, 99, now) != api.ErrNone {
				t.Fatal(text)
			}
		}
		if now%10 == 9 {
			s.Sweep(now + 10)
		}
	}
	if len(all) != 4 {
		t.Fatal(all)
	}
	slices.Sort(all)
	if len(slices.Compact(all)) != 4 {
		t.Fatal(all)
	}
}

// record is what succeeded with a nonce.
type record struct {
	spent  int
	counts []uint32
}

// accept does one thing with a nonce, and notes it if it succeeds.
func accept(t *testing.T, r *rand.Rand, s *nonce.Store, text string, was *record, now uint64) {
	t.Helper()
	if r.Intn(3) == 0 {
		if s.Spend(text, now) == api.OK {
			was.spent++
		}
	} else if count := uint32(r.Intn(5)); s.Use(text, count, now) == api.OK {
		was.counts = append(was.counts, count)
	}
	if was.spent > 1 || was.spent == 1 && len(was.counts) > 0 {
		t.Fatal(text, *was)
	}
	for i, count := range was.counts {
		if count == 0 || i > 0 && count <= was.counts[i-1] {
			t.Fatal(text, *was)
		}
	}
}

// Whatever is done, also at times that go back and at times above the largest tick, nothing is accepted twice.
func TestP12_4Random(t *testing.T) {
	r := rand.New(rand.NewSource(4))
	for _, start := range []uint64{0, 1000, most - 5, most + 1000, math.MaxUint64 - 40} {
		for range 100 {
			s := made(t, 1+r.Intn(4), uint64(1+r.Intn(6)))
			all, seen := []string{"x.0000000000000000"}, map[string]*record{"x.0000000000000000": {}}
			now := start
			for range 200 {
				at := now - min(now, uint64(r.Intn(8))) + uint64(r.Intn(8))
				switch r.Intn(6) {
				case 0:
					now += uint64(r.Intn(2))
				case 1:
					text, e := s.Issue(string(rune('a'+r.Intn(5))), at)
					if e != api.OK {
						break
					}
					if seen[text] != nil {
						t.Fatal(text, "was issued twice")
					}
					all, seen[text] = append(all, text), &record{}
				case 2:
					if r.Intn(5) == 0 {
						s.Sweep(at)
					}
				default:
					text := all[len(all)-1-r.Intn(min(len(all), 6))]
					accept(t, r, s, text, seen[text], at)
				}
			}
			if len(seen) != len(all) || s.Serial() != uint64(len(all)-1) {
				t.Fatal(len(seen), len(all), s.Serial())
			}
		}
	}
}

// play does one random thing to a store and its model.
func play(t *testing.T, r *rand.Rand, s *nonce.Store, m *model, all *[]string, now uint64) {
	t.Helper()
	text := (*all)[len(*all)-1-r.Intn(min(len(*all), 8))]
	switch choice := r.Intn(12); {
	case choice < 4:
		draws := []string{"a", "b", "c", "d", "e", "f", "a.b", "", "a b", "a,", strings.Repeat("d", 40), strings.Repeat("d", 41)}
		draw := draws[r.Intn(len(draws))]
		got, e := s.Issue(draw, now)
		want, errno := m.issue(draw, now)
		if got != want || e != errno {
			t.Fatalf("draw %s at %d: %s, %d, not %s, %d", draw, now, got, e, want, errno)
		}
		if e == api.OK {
			*all = append(*all, got)
		}
	case choice < 6:
		if e, want := s.Check(text, now), m.check(text, now); e != want {
			t.Fatalf("check of %s at %d: %d, not %d", text, now, e, want)
		}
	case choice < 8:
		if e, want := s.Spend(text, now), m.spend(text, now); e != want {
			t.Fatalf("spending of %s at %d: %d, not %d", text, now, e, want)
		}
	case choice < 11:
		count := uint32(r.Intn(5))
		if e, want := s.Use(text, count, now), m.use(text, count, now); e != want {
			t.Fatalf("use of %s with %d at %d: %d, not %d", text, count, now, e, want)
		}
	default:
		if n, want := s.Sweep(now), m.sweep(now); n != want {
			t.Fatalf("a sweep at %d: %d, not %d", now, n, want)
		}
	}
}

func TestP12_2Random(t *testing.T) {
	r := rand.New(rand.NewSource(12))
	for _, start := range []uint64{0, 1000, most - 60} {
		for range 300 {
			room, window := 1+r.Intn(6), uint64(1+r.Intn(12))
			s, m := made(t, room, window), &model{room: room, window: window}
			all := []string{"", "a.0000000000000001"}
			now := start
			for range 150 {
				if now < start+60 && r.Intn(4) == 0 {
					now += uint64(r.Intn(5))
				}
				now = min(now, most)
				back := min(now, uint64(max(0, r.Intn(9)-5)))
				play(t, r, s, m, &all, now-back)
				expect(t, s, m)
			}
		}
	}
}
