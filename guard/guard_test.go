package guard_test

import (
	"fmt"
	"math"
	"math/rand"
	"slices"
	"strings"
	"testing"

	"ostiary/api"
	"ostiary/guard"
	"ostiary/span"
)

const most = 1 << 40 // the largest tick

// model is a slow reading of the chapter: the sources in a row, in the order in which they were first tracked.
type model struct {
	config  guard.Config
	entries []guard.Entry
}

// wait doubles step by step. Its numbers are too small to overflow.
func (m *model) wait(fails int) uint64 {
	wait := m.config.Base
	for range fails {
		wait = min(2*wait, m.config.Most)
	}
	return wait
}

func (m *model) find(source string) int {
	return slices.IndexFunc(m.entries, func(e guard.Entry) bool { return e.Source == source })
}

func (m *model) locked(source string, now uint64) bool {
	i := m.find(source)
	return i >= 0 && now < m.entries[i].Until
}

func (m *model) sweep(now uint64) int {
	before := len(m.entries)
	m.entries = slices.DeleteFunc(m.entries, func(e guard.Entry) bool {
		return min(e.Until+m.config.Hold, most) <= now
	})
	return before - len(m.entries)
}

func (m *model) enter(source string, now uint64) api.Errno {
	if source == "" || len(source) > 32 {
		return api.ErrForm
	}
	if m.locked(source, now) {
		return api.ErrLocked
	}
	if m.find(source) >= 0 {
		return api.OK
	}
	if len(m.entries) == m.config.Room && m.sweep(now) == 0 {
		return api.ErrFull
	}
	m.entries = append(m.entries, guard.Entry{Source: source, At: now, Until: now})
	return api.OK
}

func (m *model) fail(source string, now uint64) api.Errno {
	if source == "" || len(source) > 32 {
		return api.ErrForm
	}
	i := m.find(source)
	if i < 0 {
		return api.ErrNone
	}
	fails := min(m.entries[i].Fails+1, 60)
	m.entries[i] = guard.Entry{Source: source, Fails: fails, At: now, Until: now + m.wait(fails)}
	return api.OK
}

func (m *model) drop(source string) api.Errno {
	if source == "" || len(source) > 32 {
		return api.ErrForm
	}
	i := m.find(source)
	if i < 0 {
		return api.ErrNone
	}
	m.entries = slices.Delete(m.entries, i, i+1)
	return api.OK
}

// made returns a new guard.
func made(t *testing.T, c guard.Config) *guard.Guard {
	t.Helper()
	g, e := guard.New(c)
	if g == nil || e != api.OK {
		t.Fatal(c, e)
	}
	return g
}

// small returns a new guard whose locks take 4, 8, 16, 20, 20 .. ticks, and whose entries expire 10 ticks later.
func small(t *testing.T, room int) *guard.Guard {
	t.Helper()
	return made(t, guard.Config{Room: room, Base: 2, Most: 20, Hold: 10})
}

// expect checks everything that a guard tells about itself.
func expect(t *testing.T, g *guard.Guard, want ...guard.Entry) {
	t.Helper()
	if got := slices.Collect(g.Entries()); !slices.Equal(got, want) {
		t.Fatalf("%v, not %v", got, want)
	}
	if g.Len() != len(want) {
		t.Fatalf("%d sources, not %d", g.Len(), len(want))
	}
	for _, e := range want {
		if g.Locked(e.Source, e.Until) || e.Until > 0 && !g.Locked(e.Source, e.Until-1) {
			t.Fatalf("%s is not locked until %d", e.Source, e.Until)
		}
	}
}

// step is a call and what it returns.
type step struct {
	call   string
	source string
	now    uint64
	want   api.Errno
}

// walk does steps one after the other.
func walk(t *testing.T, g *guard.Guard, steps ...step) {
	t.Helper()
	for i, s := range steps {
		var got api.Errno
		switch s.call {
		case "enter":
			got = g.Enter(s.source, s.now)
		case "fail":
			got = g.Fail(s.source, s.now)
		case "good":
			got = g.Good(s.source, s.now)
		case "clear":
			got = g.Clear(s.source)
		}
		if got != s.want {
			t.Fatalf("step %d, %s of %q at %d: %d, not %d", i, s.call, s.source, s.now, got, s.want)
		}
	}
}

func TestP13_1New(t *testing.T) {
	for _, room := range []int{1, 2, 17, 63, 64} {
		for _, n := range []uint64{1, 2, most / 2, most - 1, most} {
			for _, c := range []guard.Config{{Room: room, Base: n, Most: 1, Hold: 1}, {Room: room, Base: 1, Most: n, Hold: 1}, {Room: room, Base: 1, Most: 1, Hold: n}, {Room: room, Base: n, Most: n, Hold: n}} {
				g := made(t, c)
				expect(t, g)
				for i := range room {
					if e := g.Enter(fmt.Sprint("s", i), 0); e != api.OK || g.Len() != i+1 {
						t.Fatal(c, i, e)
					}
				}
				if e := g.Enter("more", 0); e != api.ErrFull || g.Len() != room {
					t.Fatal(c, e)
				}
			}
		}
	}
}

func TestP13_1NewInvalid(t *testing.T) {
	for _, room := range []int{0, -1, 65, 66, 128, 4096, 4097, math.MaxInt, math.MinInt, 1 << 32} {
		if g, e := guard.New(guard.Config{Room: room, Base: 1, Most: 1, Hold: 1}); g != nil || e != api.ErrArg {
			t.Error(room, e)
		}
	}
	for _, n := range []uint64{0, most + 1, most + 2, 2 * most, 1 << 63, math.MaxUint64} {
		for _, c := range []guard.Config{{1, n, 1, 1}, {1, 1, n, 1}, {1, 1, 1, n}, {1, n, n, n}, {64, n, most, most}, {64, most, n, most}, {64, most, most, n}} {
			if g, e := guard.New(c); g != nil || e != api.ErrArg {
				t.Error(c, e)
			}
		}
	}
}

func TestP13_1Example(t *testing.T) {
	g := made(t, guard.Config{Room: 1, Base: 2, Most: 100, Hold: 1})
	walk(t, g, step{"enter", "s", 0, api.OK}, step{"fail", "s", 0, api.OK})
	expect(t, g, guard.Entry{Source: "s", Fails: 1, At: 0, Until: 4})
	walk(t, g, step{"enter", "s", 3, api.ErrLocked}, step{"enter", "s", 4, api.OK}, step{"fail", "s", 4, api.OK})
	expect(t, g, guard.Entry{Source: "s", Fails: 2, At: 4, Until: 12})
}

// A source is a name (layer 4) that has at most MaxName bytes.
func TestP13_1Sources(t *testing.T) {
	for _, source := range []string{"s", "0", "10.0.0.1:80", "a b", "a,b=c", "S", "~", "\u00e9", "\U0001f600", strings.Repeat("s", 31), strings.Repeat("s", 32), strings.Repeat("\u00e9", 16), "s" + strings.Repeat("\u00ad", 15), strings.Repeat("\u3000", 10)} {
		g := small(t, 2)
		walk(t, g, step{"fail", source, 1, api.ErrNone}, step{"good", source, 1, api.ErrNone}, step{"clear", source, 1, api.ErrNone}, step{"enter", source, 1, api.OK})
		expect(t, g, guard.Entry{Source: source, At: 1, Until: 1})
		walk(t, g, step{"fail", source, 1, api.OK})
		expect(t, g, guard.Entry{Source: source, Fails: 1, At: 1, Until: 5})
		walk(t, g, step{"good", source, 1, api.OK}, step{"enter", source, 1, api.OK}, step{"clear", source, 1, api.OK})
		expect(t, g)
	}
}

func TestP13_1SourcesInvalid(t *testing.T) {
	g := small(t, 1)
	walk(t, g, step{"enter", "s", 1, api.OK}, step{"fail", "s", 1, api.OK})
	for _, source := range []string{
		"", strings.Repeat("s", 33), strings.Repeat("s", 34), strings.Repeat("s", 5000), strings.Repeat("\u00e9", 17), // too short and too long
		"\xff", "s\xc3", "\xed\xa0\x80", "s\x00", "a\nb", "\x7f", "\u202e", "\ue000", // not valid UTF-8, and prohibited code points
		"\u00ad", "\u200b\ufeff", // nothing is left by preparation
		"s" + strings.Repeat("\u00ad", 16), strings.Repeat("\u3000", 11), // short enough only after preparation
	} {
		// That the source is no name comes first, also where the guard has no room and where the source isn't tracked.
		walk(t, g, step{"enter", source, 1, api.ErrForm}, step{"fail", source, 1, api.ErrForm}, step{"good", source, 1, api.ErrForm}, step{"clear", source, 1, api.ErrForm})
		if g.Locked(source, 0) {
			t.Fatalf("%q is locked", source)
		}
		expect(t, g, guard.Entry{Source: "s", Fails: 1, At: 1, Until: 5})
	}
}

// Sources are told apart by their bytes: preparation doesn't change them.
func TestP13_1SourcesExactly(t *testing.T) {
	g := small(t, 8)
	var want []guard.Entry
	for i, source := range []string{"ab", "AB", "a", "a b", "a\u00a0b", "ab ", "a\u00ad", "\u00e9"} {
		walk(t, g, step{"enter", source, uint64(i), api.OK})
		want = append(want, guard.Entry{Source: source, At: uint64(i), Until: uint64(i)})
		expect(t, g, want...)
	}
	walk(t, g, step{"fail", "a b", 9, api.OK})
	want[3] = guard.Entry{Source: "a b", Fails: 1, At: 9, Until: 13}
	expect(t, g, want...)
}

// Enter of a source that is tracked changes nothing.
func TestP13_1EnterAgain(t *testing.T) {
	g := small(t, 2)
	walk(t, g, step{"enter", "s", 5, api.OK}, step{"enter", "s", 5, api.OK}, step{"enter", "s", 9, api.OK}, step{"enter", "s", 1000, api.OK}, step{"enter", "s", 4, api.ErrLocked})
	expect(t, g, guard.Entry{Source: "s", At: 5, Until: 5})
	walk(t, g, step{"fail", "s", 20, api.OK}, step{"enter", "s", 20, api.ErrLocked}, step{"enter", "s", 23, api.ErrLocked}, step{"enter", "s", 0, api.ErrLocked}, step{"enter", "s", 24, api.OK}, step{"enter", "s", 25, api.OK})
	expect(t, g, guard.Entry{Source: "s", Fails: 1, At: 20, Until: 24})
	// That its entry has expired doesn't matter as long as it is there.
	walk(t, g, step{"enter", "s", 34, api.OK}, step{"enter", "s", 1000, api.OK}, step{"fail", "s", 1000, api.OK})
	expect(t, g, guard.Entry{Source: "s", Fails: 2, At: 1000, Until: 1008})
}

func TestP13_1Fail(t *testing.T) {
	g := small(t, 2)
	walk(t, g, step{"fail", "s", 0, api.ErrNone}, step{"enter", "q", 7, api.OK}, step{"fail", "s", 7, api.ErrNone}, step{"enter", "s", 7, api.OK})
	q := guard.Entry{Source: "q", At: 7, Until: 7}
	for i, wait := range []uint64{4, 8, 16, 20, 20, 20} {
		now := uint64(7 + 100*i)
		walk(t, g, step{"fail", "s", now, api.OK})
		expect(t, g, q, guard.Entry{Source: "s", Fails: i + 1, At: now, Until: now + wait})
	}
}

// Fail and Good don't ask whether the lock has ended, nor whether the time goes on.
func TestP13_1FailLocked(t *testing.T) {
	g := small(t, 1)
	walk(t, g, step{"enter", "s", 10, api.OK}, step{"fail", "s", 10, api.OK}, step{"fail", "s", 10, api.OK})
	expect(t, g, guard.Entry{Source: "s", Fails: 2, At: 10, Until: 18})
	walk(t, g, step{"fail", "s", 11, api.OK})
	expect(t, g, guard.Entry{Source: "s", Fails: 3, At: 11, Until: 27})
	walk(t, g, step{"fail", "s", 2, api.OK})
	expect(t, g, guard.Entry{Source: "s", Fails: 4, At: 2, Until: 22})
	walk(t, g, step{"good", "s", 2, api.OK})
	expect(t, g)
}

// The count stops at 60, and the wait at the maximum.
func TestP13_1FailCount(t *testing.T) {
	for _, c := range []guard.Config{{1, 1, most, most}, {1, 3, most - 1, 1}, {1, 1, 1, 1}, {1, 100, 7, 5}, {1, most, most, most}} {
		g, m := made(t, c), &model{config: c}
		if g.Enter("s", 5) != m.enter("s", 5) {
			t.Fatal(c)
		}
		for i := range 130 {
			if g.Fail("s", 9) != m.fail("s", 9) || m.entries[0].Fails != min(i+1, 60) {
				t.Fatal(c, i)
			}
			expect(t, g, m.entries...)
		}
	}
}

func TestP13_1Good(t *testing.T) {
	for _, call := range []string{"good", "clear"} {
		g := small(t, 3)
		walk(t, g, step{call, "s", 0, api.ErrNone})
		walk(t, g, step{"enter", "r", 1, api.OK}, step{"enter", "s", 2, api.OK}, step{"enter", "q", 3, api.OK}, step{"fail", "s", 3, api.OK}, step{"fail", "s", 3, api.OK})
		walk(t, g, step{call, "s", 3, api.OK})
		r, q := guard.Entry{Source: "r", At: 1, Until: 1}, guard.Entry{Source: "q", At: 3, Until: 3}
		expect(t, g, r, q)
		walk(t, g, step{call, "s", 3, api.ErrNone}, step{"fail", "s", 3, api.ErrNone})
		// A source that comes back begins without a failure, and as the last one.
		walk(t, g, step{"enter", "s", 3, api.OK})
		expect(t, g, r, q, guard.Entry{Source: "s", At: 3, Until: 3})
		walk(t, g, step{call, "r", 3, api.OK}, step{"fail", "s", 3, api.OK}, step{"enter", "r", 4, api.OK})
		expect(t, g, q, guard.Entry{Source: "s", Fails: 1, At: 3, Until: 7}, guard.Entry{Source: "r", At: 4, Until: 4})
	}
}

// The errors of Enter come in their order: a source that is locked is told so also by a guard that is full.
func TestP13_1Order(t *testing.T) {
	g := small(t, 2)
	walk(t, g, step{"enter", "s", 0, api.OK}, step{"enter", "r", 0, api.OK}, step{"fail", "s", 0, api.OK},
		step{"enter", "", 0, api.ErrForm}, step{"enter", "s", 0, api.ErrLocked}, step{"enter", "q", 0, api.ErrFull}, step{"enter", "r", 0, api.OK}, step{"enter", "s", 4, api.OK})
	expect(t, g, guard.Entry{Source: "s", Fails: 1, At: 0, Until: 4}, guard.Entry{Source: "r"})
}

// A guard that is full removes what has expired, all of it, but only for a source that isn't tracked.
func TestP13_1Full(t *testing.T) {
	all := []guard.Entry{{Source: "a", At: 0, Until: 0}, {Source: "b", Fails: 1, At: 0, Until: 4}, {Source: "c", At: 4, Until: 4}, {Source: "d", Fails: 2, At: 5, Until: 13}}
	for now, kept := range map[uint64]int{5: 0, 9: 0, 10: 1, 13: 1, 14: 3, 22: 3, 23: 4, 1000: 4} {
		g := small(t, 4)
		walk(t, g, step{"enter", "a", 0, api.OK}, step{"enter", "b", 0, api.OK}, step{"enter", "c", 4, api.OK}, step{"enter", "d", 4, api.OK},
			step{"fail", "b", 0, api.OK}, step{"fail", "d", 4, api.OK}, step{"fail", "d", 5, api.OK})
		expect(t, g, all...)
		walk(t, g, step{"enter", "a", 1000, api.OK}, step{"enter", "b", 1000, api.OK})
		expect(t, g, all...)
		if kept == 0 {
			walk(t, g, step{"enter", "q", now, api.ErrFull})
			expect(t, g, all...)
			continue
		}
		walk(t, g, step{"enter", "q", now, api.OK})
		expect(t, g, append(slices.Clone(all[kept:]), guard.Entry{Source: "q", At: now, Until: now})...)
	}
}

// A guard that isn't full keeps what has expired.
func TestP13_1NotFull(t *testing.T) {
	g := small(t, 3)
	walk(t, g, step{"enter", "a", 0, api.OK}, step{"enter", "b", 1000, api.OK}, step{"enter", "c", 2000, api.OK})
	expect(t, g, guard.Entry{Source: "a"}, guard.Entry{Source: "b", At: 1000, Until: 1000}, guard.Entry{Source: "c", At: 2000, Until: 2000})
}

func TestP13_2Locked(t *testing.T) {
	g := small(t, 2)
	if g.Locked("s", 0) || g.Locked("", 0) || g.Locked(strings.Repeat("s", 33), 0) {
		t.Fatal("a source that isn't tracked is locked")
	}
	walk(t, g, step{"enter", "s", 0, api.OK}, step{"enter", "r", 0, api.OK})
	if g.Locked("s", 0) || g.Locked("s", 5) {
		t.Fatal("a source that never failed is locked")
	}
	walk(t, g, step{"fail", "s", 3, api.OK})
	for now := range uint64(30) {
		if g.Locked("s", now) != (now < 7) || g.Locked("r", now) || g.Locked("q", now) || g.Locked("S", now) {
			t.Fatal(now)
		}
	}
	walk(t, g, step{"good", "s", 3, api.OK})
	if g.Locked("s", 3) {
		t.Fatal("a source that isn't tracked any more is locked")
	}
	if g.Len() != 1 {
		t.Fatal(g.Len())
	}
}

func TestP13_2Sweep(t *testing.T) {
	for now, want := range map[uint64]int{0: 0, 9: 0, 10: 1, 13: 1, 14: 2, 19: 2, 20: 3, 27: 3, 28: 4, most: 4} {
		g := small(t, 5)
		walk(t, g, step{"enter", "a", 0, api.OK}, step{"enter", "b", 0, api.OK}, step{"enter", "c", 10, api.OK}, step{"enter", "d", 10, api.OK},
			step{"fail", "b", 0, api.OK}, step{"fail", "d", 10, api.OK}, step{"fail", "d", 10, api.OK})
		all := []guard.Entry{{Source: "a"}, {Source: "b", Fails: 1, Until: 4}, {Source: "c", At: 10, Until: 10}, {Source: "d", Fails: 2, At: 10, Until: 18}}
		expect(t, g, all...)
		if n := g.Sweep(now); n != want {
			t.Fatal(now, n)
		}
		expect(t, g, all[want:]...)
		if n := g.Sweep(now); n != 0 {
			t.Fatal(now, n)
		}
	}
}

// What expires is not always the oldest.
func TestP13_2SweepMiddle(t *testing.T) {
	g := small(t, 5)
	for _, source := range []string{"a", "b", "c", "d", "e"} {
		walk(t, g, step{"enter", source, 0, api.OK})
	}
	walk(t, g, step{"fail", "a", 0, api.OK}, step{"fail", "c", 0, api.OK}, step{"fail", "e", 0, api.OK}, step{"fail", "e", 1, api.OK})
	if n := g.Sweep(10); n != 2 {
		t.Fatal(n)
	}
	expect(t, g, guard.Entry{Source: "a", Fails: 1, Until: 4}, guard.Entry{Source: "c", Fails: 1, Until: 4}, guard.Entry{Source: "e", Fails: 2, At: 1, Until: 9})
}

// An entry expires at the largest tick at the latest.
func TestP13_2SweepLast(t *testing.T) {
	for _, c := range []struct {
		hold, at uint64
		fails    int
		expires  uint64
	}{
		{10, most - 20, 0, most - 10},
		{10, most - 11, 0, most - 1},
		{10, most - 10, 0, most},
		{10, most - 9, 0, most},
		{10, most, 0, most},
		{10, most - 20, 1, most - 6},
		{10, most - 14, 1, most},
		{10, most - 13, 1, most},
		{10, most - 4, 1, most},
		{most, 0, 0, most},
		{most, 0, 1, most},
		{most, most - 30, 3, most},
		{1, most - 1, 0, most},
		{1, most - 2, 0, most - 1},
	} {
		g := made(t, guard.Config{Room: 1, Base: 2, Most: 20, Hold: c.hold})
		walk(t, g, step{"enter", "s", c.at, api.OK})
		for range c.fails {
			walk(t, g, step{"fail", "s", c.at, api.OK})
		}
		walk(t, g, step{"enter", "q", c.expires - 1, api.ErrFull})
		if g.Sweep(c.expires-1) != 0 || g.Sweep(c.expires) != 1 || g.Len() != 0 {
			t.Fatal(c)
		}
	}
}

func TestP13_2Entries(t *testing.T) {
	g := small(t, 4)
	entries := g.Entries()
	if got := slices.Collect(entries); len(got) != 0 {
		t.Fatal(got)
	}
	walk(t, g, step{"enter", "z", 1, api.OK}, step{"enter", "y", 2, api.OK}, step{"enter", "x", 3, api.OK}, step{"fail", "z", 3, api.OK}, step{"enter", "z", 9, api.OK}, step{"fail", "y", 9, api.OK})
	want := []guard.Entry{{"z", 1, 3, 7}, {"y", 1, 9, 13}, {"x", 0, 3, 3}}
	for range 2 {
		if got := slices.Collect(entries); !slices.Equal(got, want) {
			t.Fatal(got)
		}
	}
	for n := 1; n <= 3; n++ {
		var got []guard.Entry
		entries(func(e guard.Entry) bool {
			got = append(got, e)
			return len(got) < n
		})
		if !slices.Equal(got, want[:n]) {
			t.Fatal(n, got)
		}
	}
	expect(t, g, want...)
}

func TestP13_2Nil(t *testing.T) {
	var g *guard.Guard
	for _, source := range []string{"s", "", strings.Repeat("s", 33)} {
		walk(t, g, step{"enter", source, 1, api.ErrNone}, step{"fail", source, 1, api.ErrNone}, step{"good", source, 1, api.ErrNone}, step{"clear", source, 1, api.ErrNone})
		if g.Locked(source, 0) {
			t.Error("a source is locked")
		}
	}
	if g.Sweep(most) != 0 || g.Len() != 0 {
		t.Error(g.Len())
	}
	entries := g.Entries()
	if entries == nil {
		t.Fatal("a nil iterator")
	}
	for e := range entries {
		t.Error(e)
	}
}

// Each guard has sources of its own.
func TestP13_2TwoGuards(t *testing.T) {
	x, y := small(t, 1), small(t, 2)
	walk(t, x, step{"enter", "s", 1, api.OK}, step{"fail", "s", 1, api.OK})
	expect(t, y)
	walk(t, y, step{"enter", "s", 2, api.OK}, step{"enter", "r", 2, api.OK})
	expect(t, x, guard.Entry{Source: "s", Fails: 1, At: 1, Until: 5})
	expect(t, y, guard.Entry{Source: "s", At: 2, Until: 2}, guard.Entry{Source: "r", At: 2, Until: 2})
}

// play does one random thing to a guard and its model.
func play(t *testing.T, r *rand.Rand, g *guard.Guard, m *model, now uint64) {
	t.Helper()
	sources := []string{"a", "b", "c", "d", "e", "f", "", strings.Repeat("s", 32), strings.Repeat("s", 33)}
	source := sources[r.Intn(len(sources))]
	var got, want any
	choice := r.Intn(20)
	switch {
	case choice < 8:
		got, want = g.Enter(source, now), m.enter(source, now)
	case choice < 14:
		got, want = g.Fail(source, now), m.fail(source, now)
	case choice == 14:
		got, want = g.Good(source, now), m.drop(source)
	case choice == 15:
		got, want = g.Clear(source), m.drop(source)
	case choice < 19:
		got, want = g.Locked(source, now), m.locked(source, now)
	default:
		got, want = g.Sweep(now), m.sweep(now)
	}
	if got != want {
		t.Fatalf("choice %d, source %q at %d: %v, not %v, with %v", choice, source, now, got, want, m.entries)
	}
}

func TestP13_2Random(t *testing.T) {
	r := rand.New(rand.NewSource(13))
	for _, start := range []uint64{0, 1000, most - 50} {
		for range 300 {
			c := guard.Config{Room: 1 + r.Intn(7), Base: uint64(1 + r.Intn(4)), Most: uint64(1 + r.Intn(30)), Hold: uint64(1 + r.Intn(20))}
			g, m := made(t, c), &model{config: c}
			now := start
			for range 150 {
				if r.Intn(3) == 0 {
					now = min(now+uint64(r.Intn(8)), most)
				}
				back := min(now, uint64(max(0, r.Intn(12)-8)))
				play(t, r, g, m, now-back)
				expect(t, g, m.entries...)
			}
		}
	}
}

// failures returns the times at which a source fails that tries at the times from first to last, now and then, but only when it is permitted to, and never succeeds.
func failures(t *testing.T, r *rand.Rand, c guard.Config, first, last uint64, eager int) []uint64 {
	t.Helper()
	g := made(t, c)
	var times []uint64
	for now := first; now <= last; now++ {
		for range 3 {
			g.Enter("other", now)
			if r.Intn(eager) > 0 || g.Enter("s", now) != api.OK {
				continue
			}
			if e := g.Fail("s", now); e != api.OK {
				t.Fatal(e)
			}
			times = append(times, now)
		}
		if r.Intn(3) == 0 && g.Fail("other", now) == api.OK {
			g.Good("other", now)
		}
	}
	return times
}

// bounded checks that there are no more failures than the bound in any period.
func bounded(t *testing.T, c guard.Config, times []uint64) {
	t.Helper()
	for i, from := range times {
		for j, to := range times[i:] {
			if bound := span.Bound(to-from+1, c.Base, c.Most); uint64(j+1) > bound {
				t.Fatalf("%+v: %d failures from %d to %d, not %d", c, j+1, from, to, bound)
			}
		}
	}
}

func TestP13_3Bound(t *testing.T) {
	r := rand.New(rand.NewSource(3))
	for _, base := range []uint64{1, 2, 3, 7, 50, most} {
		for _, top := range []uint64{1, 2, 5, 16, 33, 60, most} {
			c := guard.Config{Room: 2, Base: base, Most: top, Hold: most}
			// Whoever tries as soon as he is permitted to fails as often as the bound says.
			times := failures(t, r, c, 0, 500, 1)
			for ticks := range uint64(501) {
				n := 0
				for n < len(times) && times[n] < ticks {
					n++
				}
				if bound := span.Bound(ticks, base, top); uint64(n) != bound {
					t.Fatalf("%+v: %d failures within %d ticks, not %d", c, n, ticks, bound)
				}
			}
			bounded(t, c, times)
			for _, eager := range []int{2, 5, 20} {
				bounded(t, c, failures(t, r, c, 7, 400, eager))
			}
		}
	}
}

// Also at the largest tick, where the clock stops, nobody may try again and again.
func TestP13_3LastTicks(t *testing.T) {
	r := rand.New(rand.NewSource(5))
	for _, base := range []uint64{1, 2, 7, most} {
		for _, top := range []uint64{1, 5, 33, most} {
			c := guard.Config{Room: 2, Base: base, Most: top, Hold: most}
			for before := range uint64(40) {
				bounded(t, c, failures(t, r, c, most-before, most, 1))
			}
		}
	}
}

// No time and no number of failures makes a call panic, or the entries more than there is room for.
func TestP13_3AnyTime(t *testing.T) {
	r := rand.New(rand.NewSource(6))
	for range 200 {
		g := made(t, guard.Config{Room: 2, Base: 1 + r.Uint64()>>24, Most: 1 + r.Uint64()>>24, Hold: 1 + r.Uint64()>>24})
		for range 100 {
			now, source := math.MaxUint64-r.Uint64()>>r.Intn(64), string(rune('a'+r.Intn(4)))
			g.Enter(source, now)
			if g.Fail(source, now) == api.OK && now < math.MaxUint64 && !g.Locked(source, now) {
				t.Fatal(now, "a source that failed isn't locked")
			}
			if r.Intn(20) == 0 {
				g.Sweep(now)
			}
			if g.Len() > 2 {
				t.Fatal(g.Len())
			}
		}
	}
}
