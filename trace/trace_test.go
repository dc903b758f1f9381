package trace_test

import (
	"bytes"
	"crypto/sha256"
	"encoding/hex"
	"fmt"
	"iter"
	"math"
	"math/rand"
	"regexp"
	"slices"
	"strconv"
	"strings"
	"testing"

	"ostiary/api"
	"ostiary/trace"
)

// zeros is the chain value of a trace without events.
var zeros = make([]byte, 32)

// The greatest values that an event with a line has.
const (
	lastN    = 1 << 53
	lastTick = 1 << 40
	lastConn = 1<<31 - 1
	longest  = 200
)

var plain = regexp.MustCompile(`\A[a-z0-9_-]{1,32}\z`)

// good tells whether an event has a line.
func good(e trace.Event) bool {
	return e.N > 0 && e.N <= lastN && e.At <= lastTick && plain.MatchString(e.Kind) && e.Conn >= 0 && e.Conn <= lastConn && len(e.Text) <= longest
}

// lineOf writes the line of an event that has one.
func lineOf(e trace.Event) string {
	text := hex.EncodeToString([]byte(e.Text))
	if text == "" {
		text = "-"
	}
	return fmt.Sprintf("%d %d %s %d %s", e.N, e.At, e.Kind, e.Conn, text)
}

var form = regexp.MustCompile(`\A([1-9][0-9]*) (0|[1-9][0-9]*) ([a-z0-9_-]{1,32}) (0|[1-9][0-9]*) (-|([0-9a-f]{2}){1,200})\z`)

// slowRead reads a line by a regular expression.
func slowRead(line string) (trace.Event, api.Errno) {
	parts := form.FindStringSubmatch(line)
	if parts == nil {
		return trace.Event{}, api.ErrForm
	}
	n, e1 := strconv.ParseUint(parts[1], 10, 64)
	at, e2 := strconv.ParseUint(parts[2], 10, 64)
	conn, e3 := strconv.ParseUint(parts[4], 10, 64)
	if e1 != nil || e2 != nil || e3 != nil || n > lastN || at > lastTick || conn > lastConn {
		return trace.Event{}, api.ErrForm
	}
	text := ""
	if parts[5] != "-" {
		p, err := hex.DecodeString(parts[5])
		if err != nil {
			panic(err)
		}
		text = string(p)
	}
	return trace.Event{N: n, At: at, Kind: parts[3], Conn: int(conn), Text: text}, api.OK
}

// chainOf computes a chain value with Go's own library.
func chainOf(from []byte, events ...trace.Event) []byte {
	for _, e := range events {
		sum := sha256.Sum256(append(slices.Clone(from), lineOf(e)...))
		from = sum[:]
	}
	return from
}

// model is a slow trace: all events ever added.
type model struct {
	room   int
	events []trace.Event
}

func (m *model) add(at uint64, kind string, conn int, text string) (uint64, api.Errno) {
	e := trace.Event{N: uint64(len(m.events) + 1), At: at, Kind: kind, Conn: conn, Text: text}
	if !good(e) {
		return 0, api.ErrForm
	}
	m.events = append(m.events, e)
	return e.N, api.OK
}

func (m *model) kept() []trace.Event {
	return m.events[max(0, len(m.events)-m.room):]
}

// those returns the kept events for which wanted returns true.
func (m *model) those(wanted func(trace.Event) bool) []trace.Event {
	var list []trace.Event
	for _, e := range m.kept() {
		if wanted(e) {
			list = append(list, e)
		}
	}
	return list
}

// made returns a new trace and its model.
func made(t *testing.T, room int) (*trace.Trace, *model) {
	t.Helper()
	x, e := trace.New(room)
	if x == nil || e != api.OK {
		t.Fatal("a trace with room for", room, "events:", e)
	}
	return x, &model{room: room}
}

// add adds an event to a trace and its model.
func add(t *testing.T, x *trace.Trace, m *model, at uint64, kind string, conn int, text string) {
	t.Helper()
	want, errno := m.add(at, kind, conn, text)
	if n, e := x.Add(at, kind, conn, text); n != want || e != errno {
		t.Fatalf("%d %q %d %q: %d, %d, not %d, %d", at, kind, conn, text, n, e, want, errno)
	}
	expect(t, x, m)
}

// filled returns a trace to which n events were added, of kinds a, b and c and of connections 0 to 3.
func filled(t *testing.T, room, n int) (*trace.Trace, *model) {
	t.Helper()
	x, m := made(t, room)
	for i := range n {
		add(t, x, m, uint64(i/2), string(rune('a'+i%3)), i%4, strings.Repeat("x", i%3))
	}
	return x, m
}

// expect checks what a trace tells about itself.
func expect(t *testing.T, x *trace.Trace, m *model) {
	t.Helper()
	kept := m.kept()
	if got := slices.Collect(x.Since(0)); !slices.Equal(got, kept) {
		t.Fatalf("%v, not %v", got, kept)
	}
	first := uint64(0)
	if len(kept) > 0 {
		first = kept[0].N
	}
	if x.First() != first || x.Last() != uint64(len(m.events)) {
		t.Fatalf("the first is %d, the last %d, with %d of %d events", x.First(), x.Last(), len(kept), len(m.events))
	}
	if got, want := x.Chain(), chainOf(zeros, m.events...); !bytes.Equal(got, want) {
		t.Fatalf("the chain is %x, not %x", got, want)
	}
}

func TestP23_1New(t *testing.T) {
	for _, room := range []int{1, 2, 3, 128, 255, 256} {
		x, m := made(t, room)
		expect(t, x, m)
		for i := range room + 2 {
			add(t, x, m, uint64(i), "a", i, "")
		}
		if got := len(slices.Collect(x.Since(0))); got != room {
			t.Error(room, got)
		}
	}
	for _, room := range []int{0, -1, -256, 257, 512, 65537, 1<<32 + 1, math.MaxInt, math.MinInt} {
		if x, e := trace.New(room); x != nil || e != api.ErrArg {
			t.Error(room, x, e)
		}
	}
}

func TestP23_1Example(t *testing.T) {
	x, _ := made(t, 3)
	if n, e := x.Add(5, "open", 2, "a"); n != 1 || e != api.OK {
		t.Fatal(n, e)
	}
	for e := range x.Since(0) {
		if line, errno := e.Line(); line != "1 5 open 2 61" || errno != api.OK {
			t.Error(line, errno)
		}
	}
	sum := sha256.Sum256([]byte(strings.Repeat("\x00", 32) + "1 5 open 2 61"))
	if got := x.Chain(); !bytes.Equal(got, sum[:]) {
		t.Errorf("%x", got)
	}
}

// The oldest event is removed when there is no more room, and only then; numbers go on.
func TestP23_1Add(t *testing.T) {
	for room := 1; room <= 4; room++ {
		for n := range 10 {
			filled(t, room, n)
		}
	}
	// Ticks needn't increase, and events may be equal but for their numbers.
	x, m := made(t, 3)
	for _, at := range []uint64{9, 3, 3, 0, lastTick, 3} {
		add(t, x, m, at, "a", 1, "b")
		add(t, x, m, at, "a", 1, "b")
	}
}

// edges are values at which a part of an event is just within its limits, or just not.
var edges = struct {
	ats   []uint64
	kinds []string
	conns []int
	texts []string
}{
	[]uint64{0, 1, lastTick, lastTick + 1, math.MaxUint64},
	[]string{"a", "-", "_", "0", "a-b_c9z", strings.Repeat("k", 32), "", strings.Repeat("k", 33), "A", "a b", "a\n", "\u00e9", " a", "a\x00", "a/", "a:"},
	[]int{0, 1, lastConn, -1, lastConn + 1, 1 << 32, math.MinInt, math.MaxInt},
	[]string{"", "a", "-", " ", "\x00\xff\n", "\u00e9", strings.Repeat("t", 199), strings.Repeat("t", 200), strings.Repeat("t", 201), strings.Repeat("\u00e9", 101)},
}

// An event that would have no line leaves nothing: neither its number nor a link of the chain.
func TestP23_1AddForm(t *testing.T) {
	x, m := made(t, 2)
	add(t, x, m, 1, "a", 1, "b")
	for _, at := range edges.ats {
		for _, kind := range edges.kinds {
			for _, conn := range edges.conns {
				for _, text := range edges.texts {
					if good(trace.Event{N: 1, At: at, Kind: kind, Conn: conn, Text: text}) {
						continue
					}
					if n, e := x.Add(at, kind, conn, text); n != 0 || e != api.ErrForm {
						t.Fatalf("%d %q %d %q: %d, %d", at, kind, conn, text, n, e)
					}
				}
			}
		}
	}
	expect(t, x, m)
	add(t, x, m, 1, "a", 1, "b")
	if n, e := x.Add(1, "A", 1, "b"); n != 0 || e != api.ErrForm {
		t.Fatal(n, e) // nor is the oldest removed
	}
	expect(t, x, m)
	add(t, x, m, 1, "a", 1, "b")
}

// Events at their limits are kept as they are.
func TestP23_1AddEdges(t *testing.T) {
	x, m := made(t, 256)
	for _, at := range edges.ats {
		for _, kind := range edges.kinds {
			for _, conn := range edges.conns {
				text := edges.texts[(len(kind)+len(m.events))%len(edges.texts)]
				want, errno := m.add(at, kind, conn, text)
				if n, e := x.Add(at, kind, conn, text); n != want || e != errno {
					t.Fatalf("%d %q %d %q: %d, %d, not %d, %d", at, kind, conn, text, n, e, want, errno)
				}
			}
		}
	}
	expect(t, x, m)
}

func TestP23_1Since(t *testing.T) {
	for n := range 9 {
		x, m := filled(t, 5, n)
		for _, since := range []uint64{0, 1, 2, 3, 4, 5, 6, 7, 8, 9, math.MaxInt64, math.MaxUint64} {
			want := m.those(func(e trace.Event) bool { return e.N > since })
			if got := slices.Collect(x.Since(since)); !slices.Equal(got, want) {
				t.Fatalf("%d events since %d: %v", n, since, got)
			}
		}
	}
}

func TestP23_1Of(t *testing.T) {
	for n := range 9 {
		x, m := filled(t, 6, n)
		for _, kinds := range [][]string{nil, {}, {"a"}, {"b"}, {"c"}, {"a", "c"}, {"c", "a"}, {"b", "b"}, {"c", "b", "a"}, {"d"}, {""}, {"A", "a "}, {"d", "b", "d"}, {"ab"}} {
			want := m.those(func(e trace.Event) bool { return slices.Contains(kinds, e.Kind) })
			if got := slices.Collect(x.Of(kinds...)); !slices.Equal(got, want) {
				t.Fatalf("%d events of %q: %v", n, kinds, got)
			}
		}
	}
}

func TestP23_1About(t *testing.T) {
	for n := range 10 {
		x, m := filled(t, 7, n)
		for _, conn := range []int{0, 1, 2, 3, 4, -1, math.MinInt, math.MaxInt} {
			want := m.those(func(e trace.Event) bool { return e.Conn == conn })
			if got := slices.Collect(x.About(conn)); !slices.Equal(got, want) {
				t.Fatalf("%d events about %d: %v", n, conn, got)
			}
		}
	}
}

// iterators are the three kinds of them, each over all events of a filled trace with one kind and connection.
var iterators = map[string]func(*trace.Trace) iter.Seq[trace.Event]{
	"since": func(x *trace.Trace) iter.Seq[trace.Event] { return x.Since(0) },
	"of":    func(x *trace.Trace) iter.Seq[trace.Event] { return x.Of("a", "b") },
	"about": func(x *trace.Trace) iter.Seq[trace.Event] { return x.About(1) },
}

// Iterators begin when they are ranged over, each time anew.
func TestP23_1Again(t *testing.T) {
	for what, of := range iterators {
		x, m := made(t, 3)
		seq := of(x)
		for range 6 {
			for range 2 {
				if got := slices.Collect(seq); !slices.Equal(got, m.kept()) {
					t.Fatalf("%s: %v, not %v", what, got, m.kept())
				}
			}
			add(t, x, m, 7, "a", 1, "t")
		}
	}
}

// What is added during an iteration neither follows nor removes what was there when it began.
func TestP23_1WhileAdded(t *testing.T) {
	for what, of := range iterators {
		for at := range 4 {
			x, m := made(t, 4)
			for range 4 {
				add(t, x, m, 7, "a", 1, "t")
			}
			want := slices.Clone(m.kept())
			var got []trace.Event
			for e := range of(x) {
				if len(got) == at {
					for range 6 {
						add(t, x, m, 8, "b", 1, "u")
					}
				}
				got = append(got, e)
			}
			if !slices.Equal(got, want) {
				t.Fatalf("%s, added at event %d: %v", what, at, got)
			}
		}
	}
}

func TestP23_1Stops(t *testing.T) {
	for what, of := range iterators {
		x, m := made(t, 4)
		for range 6 {
			add(t, x, m, 7, "a", 1, "t")
		}
		for stop := 1; stop <= 4; stop++ {
			var got []trace.Event
			of(x)(func(e trace.Event) bool {
				got = append(got, e)
				return len(got) < stop
			})
			if !slices.Equal(got, m.kept()[:stop]) {
				t.Fatalf("%s, stopped after %d: %v", what, stop, got)
			}
		}
		expect(t, x, m)
	}
}

// The kinds may be overwritten after the call, and aren't by it.
func TestP23_1Kinds(t *testing.T) {
	x, m := filled(t, 6, 6)
	all := []string{"c", "a", "b", "b"}
	seq := x.Of(all[:2]...)
	want := m.those(func(e trace.Event) bool { return e.Kind != "b" })
	for range 2 {
		if got := slices.Collect(seq); !slices.Equal(got, want) {
			t.Fatal(got)
		}
		if all[3] != "b" || all[2] != "b" {
			t.Fatal(all)
		}
		all[0], all[1] = "b", "d"
	}
}

// A chain value that was told is the caller's.
func TestP23_1ChainMemory(t *testing.T) {
	x, m := made(t, 2)
	for range 4 {
		chain := x.Chain()
		again := x.Chain()
		for i := range chain[:cap(chain)] {
			chain[:cap(chain)][i] ^= 0xff
		}
		if !bytes.Equal(again, x.Chain()) {
			t.Fatal("results share memory")
		}
		add(t, x, m, 1, "a", 1, "b")
		if bytes.Equal(again, x.Chain()) {
			t.Fatal("an event doesn't change the chain")
		}
	}
}

// The chain depends on every event and on their order, also on those that are no longer kept.
func TestP23_1ChainDiffers(t *testing.T) {
	seen := map[string]bool{}
	for _, events := range []string{"", "a", "b", "aa", "ab", "ba", "bb", "aaa", "aab", "aba", "baa"} {
		x, m := made(t, 1)
		for _, kind := range events {
			add(t, x, m, 1, string(kind), 1, "")
		}
		if chain := string(x.Chain()); seen[chain] {
			t.Error(events)
		} else {
			seen[chain] = true
		}
	}
}

func TestP23_1Nil(t *testing.T) {
	var x *trace.Trace
	for _, kind := range []string{"a", "A"} {
		if n, e := x.Add(1, kind, 1, "b"); n != 0 || e != api.ErrNone {
			t.Error(n, e)
		}
	}
	for _, seq := range []iter.Seq[trace.Event]{x.Since(0), x.Of("a"), x.Of(), x.About(0)} {
		if seq == nil {
			t.Fatal("a nil iterator")
		}
		for e := range seq {
			t.Error(e)
		}
	}
	if x.First() != 0 || x.Last() != 0 || len(x.Chain()) != 0 {
		t.Error(x.First(), x.Last(), x.Chain())
	}
}

// Random events, also some without a line, against all events ever added.
func TestP23_1Random(t *testing.T) {
	for seed := range 60 {
		r := rand.New(rand.NewSource(int64(seed)))
		x, m := made(t, 1+r.Intn(12))
		for range 50 {
			kind := edges.kinds[r.Intn(6)]
			if r.Intn(5) == 0 {
				kind = edges.kinds[r.Intn(len(edges.kinds))]
			}
			add(t, x, m, uint64(r.Intn(9)), kind, r.Intn(4), edges.texts[r.Intn(len(edges.texts))])
			since := uint64(r.Intn(60))
			if got, want := slices.Collect(x.Since(since)), m.those(func(e trace.Event) bool { return e.N > since }); !slices.Equal(got, want) {
				t.Fatalf("%v, not %v", got, want)
			}
			if got, want := slices.Collect(x.Of(kind, "a")), m.those(func(e trace.Event) bool { return e.Kind == kind || e.Kind == "a" }); !slices.Equal(got, want) {
				t.Fatalf("%v, not %v", got, want)
			}
			conn := r.Intn(5)
			if got, want := slices.Collect(x.About(conn)), m.those(func(e trace.Event) bool { return e.Conn == conn }); !slices.Equal(got, want) {
				t.Fatalf("%v, not %v", got, want)
			}
		}
		if !trace.Verify(zeros, x.Chain(), m.events...) {
			t.Fatal(seed)
		}
	}
}

// Two traces have events of their own.
func TestP23_1TwoTraces(t *testing.T) {
	x, m := filled(t, 3, 5)
	y, k := filled(t, 2, 1)
	add(t, x, m, 1, "d", 1, "")
	expect(t, y, k)
	add(t, y, k, 2, "e", 2, "f")
	expect(t, x, m)
}

// Every event at the edges has the line that the chapter says, or none, and the line reads as the event.
func TestP23_2Line(t *testing.T) {
	for _, n := range []uint64{0, 1, 2, 10, lastN - 1, lastN, lastN + 1, math.MaxInt64, math.MaxUint64} {
		for _, at := range edges.ats {
			for _, kind := range edges.kinds {
				for _, conn := range edges.conns {
					for _, text := range edges.texts {
						check(t, trace.Event{N: n, At: at, Kind: kind, Conn: conn, Text: text})
					}
				}
			}
		}
	}
}

// check compares the line of an event, and what is read from it.
func check(t *testing.T, e trace.Event) {
	t.Helper()
	line, errno := e.Line()
	if !good(e) {
		if line != "" || errno != api.ErrForm {
			t.Fatalf("%+v: %q, %d", e, line, errno)
		}
		// What its line would be is none either.
		if got, errno := trace.Read(lineOf(e)); got != (trace.Event{}) || errno != api.ErrForm {
			t.Fatalf("%q: %+v, %d", lineOf(e), got, errno)
		}
		return
	}
	if line != lineOf(e) || errno != api.OK {
		t.Fatalf("%+v: %q, %d", e, line, errno)
	}
	if got, errno := trace.Read(line); got != e || errno != api.OK {
		t.Fatalf("%q: %+v, %d", line, got, errno)
	}
}

func TestP23_2Lines(t *testing.T) {
	for line, e := range map[string]trace.Event{
		"1 5 open 2 61":     {N: 1, At: 5, Kind: "open", Conn: 2, Text: "a"},
		"1 0 a 0 -":         {N: 1, Kind: "a"},
		"10 20 a-b_9 30 2d": {N: 10, At: 20, Kind: "a-b_9", Conn: 30, Text: "-"},
		"9007199254740992 1099511627776 _ 2147483647 00ff0a20": {N: 1 << 53, At: 1 << 40, Kind: "_", Conn: 1<<31 - 1, Text: "\x00\xff\n "},
		"3 4 - 5 c3a9": {N: 3, At: 4, Kind: "-", Conn: 5, Text: "\u00e9"},
	} {
		if got, errno := e.Line(); got != line || errno != api.OK {
			t.Errorf("%q, %d, not %q", got, errno, line)
		}
		if got, errno := trace.Read(line); got != e || errno != api.OK {
			t.Errorf("%+v, %d, not %+v", got, errno, e)
		}
	}
}

// All kinds of one byte, and texts of it.
func TestP23_2Bytes(t *testing.T) {
	for b := range 256 {
		c := string([]byte{byte(b)})
		check(t, trace.Event{N: 1, Kind: c})
		check(t, trace.Event{N: 1, Kind: "a" + c + "a"})
		check(t, trace.Event{N: 1, Kind: "a", Text: c})
	}
}

// compare reads a text and holds the result against that of the slow reading.
func compare(t *testing.T, line string) {
	t.Helper()
	want, errno := slowRead(line)
	if got, e := trace.Read(line); got != want || e != errno {
		t.Fatalf("%q: %+v, %d, not %+v, %d", line, got, e, want, errno)
	}
}

func TestP23_2ReadForm(t *testing.T) {
	for _, line := range []string{
		"", " ", "    ", "-", "1", "1 2 a 3", "1 2 a 3 ", "1 2 a 3 - ", " 1 2 a 3 -", "1 2 a 3 -\n", "1  2 a 3 -", "1 2 a 3  -", "1 2 a 3 - -", "1 2 a 3 61 61",
		"1\t2 a 3 -", "1 2 a 3\t-", "0 2 a 3 -", "00 2 a 3 -", "01 2 a 3 -", "1 02 a 3 -", "1 00 a 3 -", "1 2 a 03 -", "1 2 a 00 -", "1 2 a -0 -", "1 2 a -1 -",
		"+1 2 a 3 -", "1 +2 a 3 -", "1 2 a +3 -", "-1 2 a 3 -", "1 -2 a 3 -", "1_0 2 a 3 -", "1 2_0 a 3 -", "1 2 a 3_0 -", "0x1 2 a 3 -", "1 0x2 a 3 -", "1 2 a 0x3 -",
		"1.0 2 a 3 -", "1e3 2 a 3 -", "a 2 a 3 -", "1 b a 3 -", "1 2 a c -", " 2 a 3 -", "1  a 3 -", "1 2  3 -", "1 2 a  -",
		"9007199254740993 2 a 3 -", "18446744073709551615 2 a 3 -", "18446744073709551616 2 a 3 -", "18446744073709551617 2 a 3 -", "99999999999999999999999999 2 a 3 -",
		"1 1099511627777 a 3 -", "1 18446744073709551615 a 3 -", "1 18446744073709551616 a 3 -",
		"1 2 a 2147483648 -", "1 2 a 4294967296 -", "1 2 a 4294967297 -", "1 2 a 9223372036854775807 -", "1 2 a 9223372036854775808 -", "1 2 a 18446744073709551616 -", "1 2 a 18446744073709551617 -",
		"1 2 A 3 -", "1 2 a/b 3 -", "1 2 \u00e9 3 -", "1 2 " + strings.Repeat("k", 33) + " 3 -",
		"1 2 a 3 --", "1 2 a 3 6", "1 2 a 3 616", "1 2 a 3 6A", "1 2 a 3 6G", "1 2 a 3 -6", "1 2 a 3 6-", "1 2 a 3 61-", "1 2 a 3 0x61", "1 2 a 3 zz", "1 2 a 3 " + strings.Repeat("61", 201), "1 2 a 3 " + strings.Repeat("6", 401),
	} {
		if e, errno := trace.Read(line); e != (trace.Event{}) || errno != api.ErrForm {
			t.Errorf("%q: %+v, %d", line, e, errno)
		}
		compare(t, line)
	}
}

// Every change of a byte of some lines: another one in its place, one more, one less.
func TestP23_2ReadChanged(t *testing.T) {
	for _, line := range []string{"1 5 open 2 61", "10 0 a 0 -", "9007199254740992 1099511627776 k-_9 2147483647 00ff", "7 8 - 9 2d2d"} {
		compare(t, line)
		for i := range len(line) + 1 {
			for b := range 256 {
				c := string([]byte{byte(b)})
				compare(t, line[:i]+c+line[i:])
				if i < len(line) {
					compare(t, line[:i]+c+line[i+1:])
				}
			}
			if i < len(line) {
				compare(t, line[:i]+line[i+1:])
				compare(t, line[:i])
				compare(t, line[i:])
			}
		}
	}
}

// All lines of some fields, also too few and too many.
func TestP23_2ReadFields(t *testing.T) {
	fields := []string{"", "0", "1", "01", "-", "a", "6a", "-1", "A"}
	var lines func(line string, left int)
	lines = func(line string, left int) {
		compare(t, line)
		if left == 0 {
			return
		}
		for _, f := range fields {
			lines(line+" "+f, left-1)
		}
	}
	for _, f := range fields {
		lines(f, 4)
	}
	for _, f := range fields {
		compare(t, "1 2 a 3 - "+f)
		compare(t, "1 2 a 3 61 "+f)
		compare(t, f+" 1 2 a 3 -")
		compare(t, "1 2 a 3 - - "+f)
	}
}

// events are some that have lines, with numbers that don't follow each other.
var events = []trace.Event{
	{N: 1, At: 5, Kind: "open", Conn: 2, Text: "a"},
	{N: 2, At: 5, Kind: "dial"},
	{N: 9, At: 3, Kind: "fail", Conn: 1, Text: "13"},
	{N: 2, At: 5, Kind: "dial"},
	{N: lastN, At: lastTick, Kind: "x", Conn: lastConn, Text: strings.Repeat("t", longest)},
}

// From any chain value, and after any events, the chain is the one that Go's own library computes, and no other.
func TestP23_2Verify(t *testing.T) {
	start := sha256.Sum256([]byte("start"))
	for _, from := range [][]byte{zeros, start[:], bytes.Repeat([]byte{0xff}, 32)} {
		for i := range events {
			for j := i; j <= len(events); j++ {
				chain := chainOf(from, events[i:j]...)
				if !trace.Verify(from, chain, events[i:j]...) {
					t.Fatal("events", i, "to", j)
				}
				for at := range chain {
					other := slices.Clone(chain)
					other[at] ^= 1
					if trace.Verify(from, other, events[i:j]...) {
						t.Fatalf("byte %d of the chain doesn't count", at)
					}
					other = slices.Clone(from)
					other[at] ^= 0x80
					if trace.Verify(other, chain, events[i:j]...) {
						t.Fatalf("byte %d of the beginning doesn't count", at)
					}
				}
			}
		}
	}
}

// Neither a missing, nor an additional, nor a changed, nor an exchanged event passes.
func TestP23_2VerifyOthers(t *testing.T) {
	some := events[:3]
	chain := chainOf(zeros, some...)
	for i := range some {
		if trace.Verify(zeros, chain, slices.Delete(slices.Clone(some), i, i+1)...) {
			t.Error(i, "is missing")
		}
		if trace.Verify(zeros, chain, slices.Insert(slices.Clone(some), i, events[4])...) {
			t.Error(i, "is additional")
		}
		for _, change := range []func(*trace.Event){
			func(e *trace.Event) { e.N++ },
			func(e *trace.Event) { e.At++ },
			func(e *trace.Event) { e.Kind += "a" },
			func(e *trace.Event) { e.Conn++ },
			func(e *trace.Event) { e.Text += "a" },
		} {
			other := slices.Clone(some)
			change(&other[i])
			if trace.Verify(zeros, chain, other...) {
				t.Errorf("%+v passes", other[i])
			}
		}
		for j := range i {
			other := slices.Clone(some)
			other[i], other[j] = other[j], other[i]
			if trace.Verify(zeros, chain, other...) {
				t.Error(i, j, "are exchanged")
			}
		}
	}
	if trace.Verify(zeros, chain) || !trace.Verify(zeros, zeros) || !trace.Verify(chain, chain) || trace.Verify(chain, zeros) {
		t.Error("no events")
	}
}

// An event without a line makes it false, wherever it stands and whatever the chain is.
func TestP23_2VerifyNoLine(t *testing.T) {
	for _, bad := range []trace.Event{{}, {N: 1}, {Kind: "a"}, {N: lastN + 1, Kind: "a"}, {N: 1, Kind: "A"}, {N: 1, Kind: "a", At: lastTick + 1}, {N: 1, Kind: "a", Conn: -1}, {N: 1, Kind: "a", Text: strings.Repeat("t", longest+1)}} {
		for at := range 3 {
			l := slices.Insert(slices.Clone(events[:2]), at, bad)
			for _, chain := range [][]byte{zeros, nil, chainOf(zeros, l...), chainOf(zeros, events[:2]...), chainOf(zeros, l[:at]...), chainOf(zeros, l[at+1:]...)} {
				if trace.Verify(zeros, chain, l...) {
					t.Fatalf("%+v passes", bad)
				}
			}
		}
		sum := sha256.Sum256(zeros)
		if trace.Verify(zeros, zeros, bad) || trace.Verify(zeros, nil, bad) || trace.Verify(zeros, sum[:], bad) {
			t.Errorf("%+v passes", bad)
		}
	}
}

// What has not the length of a hash is no chain value. A line could begin with its last digits.
func TestP23_2VerifyLength(t *testing.T) {
	e := trace.Event{N: 12, At: 1, Kind: "a"}
	chain := chainOf(zeros, e)
	rest := trace.Event{N: 2, At: 1, Kind: "a"}
	if trace.Verify(append(slices.Clone(zeros), '1'), chain, rest) {
		t.Error("a digit of the number is taken for a part of the chain value")
	}
	for _, n := range []int{0, 1, 31, 33, 64} {
		from := make([]byte, n)
		for _, l := range [][]trace.Event{nil, {e}, events[:3]} {
			if trace.Verify(from, chainOf(from, l...), l...) {
				t.Errorf("from %d bytes", n)
			}
			if trace.Verify(zeros, from, l...) {
				t.Errorf("to %d bytes", n)
			}
			if n < 32 && trace.Verify(zeros, chainOf(zeros, l...)[:n], l...) {
				t.Errorf("the first %d bytes suffice", n)
			}
		}
	}
	if trace.Verify(nil, nil) {
		t.Error("nothing is a chain value")
	}
}

// The arguments of Verify stay as they are, also behind their ends.
func TestP23_2VerifyMemory(t *testing.T) {
	all := make([]byte, 200)
	from := all[:32]
	end := append(chainOf(zeros, events[:2]...), bytes.Repeat([]byte{7}, 100)...)
	l := slices.Clone(events)
	for range 2 {
		if !trace.Verify(from, end[:32], l[:2]...) {
			t.Fatal("the arguments were changed")
		}
	}
	if !bytes.Equal(all, make([]byte, 200)) || !bytes.Equal(end[32:], bytes.Repeat([]byte{7}, 100)) || !slices.Equal(l, events) {
		t.Error("the arguments were changed")
	}
}
