package table_test

import (
	"errors"
	"iter"
	"math"
	"math/rand"
	"slices"
	"strconv"
	"testing"

	"ostiary/api"
	"ostiary/table"
)

type entry struct {
	key   string
	value int
}

// model is a slow table: its entries in a row, the oldest first.
type model struct {
	room    int
	entries []entry
}

func (m *model) find(key string) int {
	return slices.IndexFunc(m.entries, func(e entry) bool { return e.key == key })
}

func (m *model) put(key string, value int) api.Errno {
	if m.find(key) >= 0 {
		return api.ErrExists
	}
	if len(m.entries) == m.room {
		return api.ErrFull
	}
	m.entries = append(m.entries, entry{key, value})
	return api.OK
}

func (m *model) set(key string, value int) api.Errno {
	i := m.find(key)
	if i < 0 {
		return api.ErrNone
	}
	m.entries[i].value = value
	return api.OK
}

func (m *model) drop(key string) api.Errno {
	i := m.find(key)
	if i < 0 {
		return api.ErrNone
	}
	m.entries = slices.Delete(m.entries, i, i+1)
	return api.OK
}

func (m *model) renew(key string) api.Errno {
	i := m.find(key)
	if i < 0 {
		return api.ErrNone
	}
	e := m.entries[i]
	m.entries = append(slices.Delete(m.entries, i, i+1), e)
	return api.OK
}

func (m *model) prune(gone func(entry) bool) int {
	before := len(m.entries)
	m.entries = slices.DeleteFunc(m.entries, gone)
	return before - len(m.entries)
}

// made returns a new table.
func made(t *testing.T, room int) *table.Table[int] {
	t.Helper()
	x, e := table.New[int](room)
	if x == nil || e != api.OK {
		t.Fatal("a table for", room, "entries:", e)
	}
	return x
}

// filled returns a new table with keys a, b, c .. and values 0, 1, 2 ..
func filled(t *testing.T, room, n int) *table.Table[int] {
	t.Helper()
	x := made(t, room)
	for i := range n {
		if e := x.Put(letter(i), i); e != api.OK {
			t.Fatal(i, e)
		}
	}
	return x
}

func letter(i int) string {
	return string(rune('a' + i))
}

func collect(seq iter.Seq2[string, int]) []entry {
	var list []entry
	for key, value := range seq {
		list = append(list, entry{key, value})
	}
	return list
}

// order returns the keys of a table, one behind the other.
func order(x *table.Table[int]) string {
	s := ""
	for key := range x.All() {
		s += key
	}
	return s
}

// expect checks everything that a table tells about itself.
func expect(t *testing.T, x *table.Table[int], m *model, keys ...string) {
	t.Helper()
	if got := collect(x.All()); !slices.Equal(got, m.entries) {
		t.Fatalf("%v, not %v", got, m.entries)
	}
	left := m.room - len(m.entries)
	if x.Len() != len(m.entries) || x.Room() != left || x.Full() != (left == 0) {
		t.Fatalf("%d entries, room for %d, full: %t, with %v", x.Len(), x.Room(), x.Full(), m.entries)
	}
	oldest := entry{}
	if len(m.entries) > 0 {
		oldest = m.entries[0]
	}
	key, value, ok := x.Oldest()
	if ok != (len(m.entries) > 0) || (entry{key, value}) != oldest {
		t.Fatalf("the oldest is %q, %d, %t, with %v", key, value, ok, m.entries)
	}
	for _, key := range keys {
		want, found := 0, false
		if i := m.find(key); i >= 0 {
			want, found = m.entries[i].value, true
		}
		if got, ok := x.Get(key); got != want || ok != found {
			t.Fatalf("%q is %d, %t, with %v", key, got, ok, m.entries)
		}
	}
}

func TestP11_1New(t *testing.T) {
	for _, room := range []int{1, 2, 3, 64, 255, 256, 4095, 4096} {
		x := made(t, room)
		expect(t, x, &model{room: room}, "", "a")
		m := &model{room: room}
		for i := range room {
			key := strconv.Itoa(i)
			if x.Full() || x.Room() != room-i || x.Len() != i {
				t.Fatalf("room for %d of %d, with %d entries", x.Room(), room, x.Len())
			}
			if e := x.Put(key, i); e != api.OK {
				t.Fatal(room, i, e)
			}
			m.entries = append(m.entries, entry{key, i})
		}
		expect(t, x, m, "", "0", strconv.Itoa(room-1), strconv.Itoa(room))
		if e := x.Put("more", 1); e != api.ErrFull {
			t.Fatal(room, e)
		}
		expect(t, x, m, "more")
	}
	for _, room := range []int{0, -1, -4096, 4097, 8192, 65537, 1<<32 + 1, math.MaxInt, math.MinInt} {
		if x, e := table.New[int](room); x != nil || e != api.ErrArg {
			t.Error(room, x, e)
		}
	}
}

func TestP11_1Example(t *testing.T) {
	x := made(t, 2)
	if x.Put("a", 1) != api.OK || x.Put("b", 2) != api.OK || x.Renew("a") != api.OK {
		t.Fatal(order(x))
	}
	if key, value, ok := x.Oldest(); key != "b" || value != 2 || !ok {
		t.Error(key, value, ok)
	}
	if e := x.Put("c", 3); e != api.ErrFull {
		t.Error(e)
	}
}

func TestP11_1Put(t *testing.T) {
	x := made(t, 4)
	m := &model{room: 4}
	for i, key := range []string{"b", "a", ""} {
		if e := x.Put(key, i); e != m.put(key, i) {
			t.Fatal(key, e)
		}
		expect(t, x, m, "", "a", "b", "c")
	}
	// A key that exists keeps its value and its position.
	for _, key := range []string{"b", "a", ""} {
		if e := x.Put(key, 9); e != api.ErrExists {
			t.Fatal(key, e)
		}
		expect(t, x, m, "", "a", "b", "c")
	}
}

// That the key exists is told ahead of that the table is full.
func TestP11_1PutFull(t *testing.T) {
	x := filled(t, 2, 2)
	if e := x.Put("a", 9); e != api.ErrExists {
		t.Error(e)
	}
	if e := x.Put("b", 9); e != api.ErrExists {
		t.Error(e)
	}
	if e := x.Put("c", 9); e != api.ErrFull {
		t.Error(e)
	}
	m := &model{2, []entry{{"a", 0}, {"b", 1}}}
	expect(t, x, m, "a", "b", "c")
	if x.Drop("a") != api.OK || x.Put("c", 9) != api.OK || x.Put("a", 7) != api.ErrFull {
		t.Error(order(x))
	}
	expect(t, x, &model{2, []entry{{"b", 1}, {"c", 9}}}, "a", "b", "c")
}

// Keys are any strings, compared byte by byte.
func TestP11_1Keys(t *testing.T) {
	keys := []string{"", "a", "A", "a\x00", "\x00a", "\x00", "a ", "\xff", "\xc3\xa9", "e\xcc\x81", string(make([]byte, 5000)), string(make([]byte, 5001))}
	x := made(t, len(keys))
	for i, key := range keys {
		if e := x.Put(key, i); e != api.OK {
			t.Fatal(i, e)
		}
	}
	for i, key := range keys {
		if value, ok := x.Get(key); value != i || !ok {
			t.Fatal(i, value, ok)
		}
	}
}

func TestP11_1SetDropRenew(t *testing.T) {
	for i := range 5 {
		key := letter(i)
		for _, c := range []struct {
			what  string
			call  func(*table.Table[int]) api.Errno
			model func(*model) api.Errno
		}{
			{"set", func(x *table.Table[int]) api.Errno { return x.Set(key, 9) }, func(m *model) api.Errno { return m.set(key, 9) }},
			{"drop", func(x *table.Table[int]) api.Errno { return x.Drop(key) }, func(m *model) api.Errno { return m.drop(key) }},
			{"renew", func(x *table.Table[int]) api.Errno { return x.Renew(key) }, func(m *model) api.Errno { return m.renew(key) }},
		} {
			for n := range 5 {
				x := filled(t, 4, n)
				m := &model{room: 4}
				for j := range n {
					m.put(letter(j), j)
				}
				for range 2 {
					if got, want := c.call(x), c.model(m); got != want {
						t.Fatalf("%s %s of %d entries: %d, not %d", c.what, key, n, got, want)
					}
					expect(t, x, m, "a", "b", "c", "d", "e")
				}
			}
		}
	}
}

func TestP11_1Prune(t *testing.T) {
	for n := range 7 {
		for removed := range 1 << n {
			x := filled(t, 6, n)
			m := &model{room: 6}
			for i := range n {
				m.put(letter(i), i)
			}
			before := slices.Clone(m.entries)
			var asked []entry
			got := x.Prune(func(key string, value int) bool {
				asked = append(asked, entry{key, value})
				return removed>>value&1 == 1
			})
			want := m.prune(func(e entry) bool { return removed>>e.value&1 == 1 })
			if got != want || !slices.Equal(asked, before) {
				t.Fatalf("%d of %v were removed, %v were asked about", got, before, asked)
			}
			expect(t, x, m, "a", "b", "c", "d", "e", "f")
		}
	}
}

// Prune asks in the order of age, not in that of the keys or of when they were first put.
func TestP11_1PruneOrder(t *testing.T) {
	x := filled(t, 5, 5)
	x.Renew("b")
	x.Drop("d")
	x.Put("d", 7)
	x.Renew("a")
	asked := ""
	if n := x.Prune(func(key string, _ int) bool {
		asked += key
		return false
	}); n != 0 || asked != "cebda" || order(x) != asked {
		t.Fatal(n, asked, order(x))
	}
}

func TestP11_1PruneNil(t *testing.T) {
	x := filled(t, 3, 2)
	if n := x.Prune(nil); n != 0 {
		t.Fatal(n)
	}
	expect(t, x, &model{3, []entry{{"a", 0}, {"b", 1}}}, "a", "b")
}

// A function that panics has not returned true: the entry stays, and the others are asked about.
func TestP11_1PrunePanics(t *testing.T) {
	for _, thrown := range []any{"no", 1, nil, errors.New("no")} {
		x := filled(t, 4, 4)
		asked := ""
		n := x.Prune(func(key string, value int) bool {
			asked += key
			if value%2 == 0 {
				panic(thrown)
			}
			return true
		})
		if n != 2 || asked != "abcd" {
			t.Fatal(n, asked)
		}
		expect(t, x, &model{4, []entry{{"a", 0}, {"c", 2}}}, "a", "b", "c", "d")
	}
}

// The function that decides may use the table: it is asked about the entries that were there when the call began.
func TestP11_1PruneWithin(t *testing.T) {
	x := filled(t, 8, 4)
	asked := ""
	n := x.Prune(func(key string, value int) bool {
		asked += key
		x.Put("new"+key, value)
		x.Renew(key)
		return value%2 == 0
	})
	if n != 2 || asked != "abcd" || order(x) != "newanewbbnewcnewdd" {
		t.Fatal(n, asked, order(x))
	}
	if n := x.Prune(func(string, int) bool { return x.Prune(func(string, int) bool { return true }) < 0 }); n != 0 || x.Len() != 0 {
		t.Fatal(n, order(x))
	}
}

func TestP11_2Get(t *testing.T) {
	x := filled(t, 3, 2)
	for range 2 {
		expect(t, x, &model{3, []entry{{"a", 0}, {"b", 1}}}, "a", "b", "c", "", "A", "a\x00")
	}
	x.Set("a", 5)
	x.Drop("b")
	expect(t, x, &model{3, []entry{{"a", 5}}}, "a", "b", "c")
}

func TestP11_2Oldest(t *testing.T) {
	x := filled(t, 3, 3)
	for _, want := range []string{"a", "b", "c"} {
		key, value, ok := x.Oldest()
		if key != want || letter(value) != want || !ok {
			t.Fatal(key, value, ok)
		}
		x.Drop(key)
	}
	if key, value, ok := x.Oldest(); key != "" || value != 0 || ok {
		t.Fatal(key, value, ok)
	}
	// An empty key may be the oldest.
	x.Put("", 0)
	if key, value, ok := x.Oldest(); key != "" || value != 0 || !ok {
		t.Fatal(key, value, ok)
	}
}

// Iterators begin when they are ranged over, each time anew.
func TestP11_2AllAgain(t *testing.T) {
	x := made(t, 3)
	all := x.All()
	if got := collect(all); got != nil {
		t.Fatal(got)
	}
	x.Put("a", 1)
	x.Put("b", 2)
	for range 2 {
		if got := collect(all); !slices.Equal(got, []entry{{"a", 1}, {"b", 2}}) {
			t.Fatal(got)
		}
	}
	x.Set("a", 3)
	x.Renew("a")
	if got := collect(all); !slices.Equal(got, []entry{{"b", 2}, {"a", 3}}) {
		t.Fatal(got)
	}
}

func TestP11_2AllStops(t *testing.T) {
	x := filled(t, 5, 4)
	m := &model{5, collect(x.All())}
	for n := 1; n <= 4; n++ {
		var got []entry
		x.All()(func(key string, value int) bool {
			got = append(got, entry{key, value})
			return len(got) < n
		})
		if !slices.Equal(got, m.entries[:n]) {
			t.Fatal(n, got)
		}
		expect(t, x, m, "a", "b", "c", "d")
	}
}

// Whatever is done to the table while it is iterated over, at each of the entries, the entries are those of the beginning.
func TestP11_2AllWhileChanged(t *testing.T) {
	for what, change := range map[string]func(*table.Table[int]){
		"put": func(x *table.Table[int]) { x.Put("new", 9) },
		"set": func(x *table.Table[int]) {
			for i := range 4 {
				x.Set(letter(i), 9)
			}
		},
		"drop": func(x *table.Table[int]) {
			for i := range 4 {
				x.Drop(letter(i))
			}
		},
		"renew": func(x *table.Table[int]) {
			for i := 3; i >= 0; i-- {
				x.Renew(letter(i))
			}
		},
		"drop and put": func(x *table.Table[int]) {
			for i := range 4 {
				x.Drop(letter(i))
			}
			for i := 3; i >= 0; i-- {
				x.Put(letter(i), 9)
			}
		},
		"prune": func(x *table.Table[int]) { x.Prune(func(string, int) bool { return true }) },
	} {
		for at := range 4 {
			x := filled(t, 5, 4)
			want := collect(x.All())
			var got []entry
			for key, value := range x.All() {
				if len(got) == at {
					change(x)
				}
				got = append(got, entry{key, value})
			}
			if !slices.Equal(got, want) {
				t.Fatalf("%s at entry %d: %v", what, at, got)
			}
		}
	}
}

func TestP11_2Nil(t *testing.T) {
	var x *table.Table[int]
	for what, e := range map[string]api.Errno{"put": x.Put("a", 1), "set": x.Set("a", 1), "drop": x.Drop("a"), "renew": x.Renew("a")} {
		if e != api.ErrNone {
			t.Error(what, e)
		}
	}
	if value, ok := x.Get("a"); value != 0 || ok {
		t.Error(value, ok)
	}
	if key, value, ok := x.Oldest(); key != "" || value != 0 || ok {
		t.Error(key, value, ok)
	}
	if n := x.Prune(func(string, int) bool {
		t.Error("a nil table has an entry")
		return true
	}); n != 0 {
		t.Error(n)
	}
	if n := x.Prune(nil); n != 0 {
		t.Error(n)
	}
	if x.Len() != 0 || x.Room() != 0 || x.Full() {
		t.Error(x.Len(), x.Room(), x.Full())
	}
	all := x.All()
	if all == nil {
		t.Fatal("a nil iterator")
	}
	if got := collect(all); got != nil {
		t.Error(got)
	}
}

// Values have any type, also one that can't be compared; a value that is not found is the zero value of that type.
func TestP11_2Types(t *testing.T) {
	type pair struct {
		name  string
		parts []int
	}
	pairs, e := table.New[pair](2)
	if e != api.OK || pairs.Put("a", pair{"x", []int{1}}) != api.OK {
		t.Fatal(e)
	}
	if p, ok := pairs.Get("a"); !ok || p.name != "x" || !slices.Equal(p.parts, []int{1}) {
		t.Error(p, ok)
	}
	if p, ok := pairs.Get("b"); ok || p.name != "" || p.parts != nil {
		t.Error(p, ok)
	}
	calls, _ := table.New[func() int](1)
	if _, f, ok := calls.Oldest(); f != nil || ok {
		t.Error(ok)
	}
	calls.Put("a", func() int { return 7 })
	if _, f, ok := calls.Oldest(); !ok || f() != 7 {
		t.Error(ok)
	}
	values, _ := table.New[any](1)
	if values.Put("a", nil) != api.OK || values.Put("a", 1) != api.ErrExists {
		t.Error(values.Len())
	}
	if v, ok := values.Get("a"); v != nil || !ok {
		t.Error(v, ok)
	}
	tables, _ := table.New[*table.Table[string]](1)
	tables.Put("a", nil)
	if x, ok := tables.Get("a"); x != nil || !ok || x.Put("b", "c") != api.ErrNone {
		t.Error(ok)
	}
}

// A value that is put is a copy, and so is a value that is got.
func TestP11_2Copies(t *testing.T) {
	x, _ := table.New[[2]int](2)
	v := [2]int{1, 2}
	x.Put("a", v)
	v[0] = 9
	got, _ := x.Get("a")
	_, oldest, _ := x.Oldest()
	if got != [2]int{1, 2} || oldest != got {
		t.Fatal(got, oldest)
	}
	got[0] = 9
	if again, _ := x.Get("a"); again != [2]int{1, 2} {
		t.Fatal(again)
	}
}

// Each table has entries of its own.
func TestP11_2TwoTables(t *testing.T) {
	x, y := filled(t, 3, 2), filled(t, 2, 1)
	x.Set("a", 5)
	y.Put("c", 6)
	x.Renew("a")
	expect(t, x, &model{3, []entry{{"b", 1}, {"a", 5}}}, "a", "b", "c")
	expect(t, y, &model{2, []entry{{"a", 0}, {"c", 6}}}, "a", "b", "c")
}

// play does one random thing to a table and its model.
func play(t *testing.T, r *rand.Rand, x *table.Table[int], m *model, keys []string) {
	t.Helper()
	key, value := keys[r.Intn(len(keys))], r.Intn(4)
	var got, want api.Errno
	choice := r.Intn(20)
	switch {
	case choice < 8:
		got, want = x.Put(key, value), m.put(key, value)
	case choice < 11:
		got, want = x.Set(key, value), m.set(key, value)
	case choice < 14:
		got, want = x.Drop(key), m.drop(key)
	case choice < 18:
		got, want = x.Renew(key), m.renew(key)
	case choice == 18:
		if n, k := x.Prune(func(_ string, v int) bool { return v == value }), m.prune(func(e entry) bool { return e.value == value }); n != k {
			t.Fatalf("%d were removed, not %d", n, k)
		}
	default:
		if e := x.Drop("none"); e != api.ErrNone {
			t.Fatal(e)
		}
	}
	if got != want {
		t.Fatalf("choice %d, key %s: %d, not %d, with %v", choice, key, got, want, m.entries)
	}
}

func TestP11_2Random(t *testing.T) {
	r := rand.New(rand.NewSource(11))
	for range 300 {
		room := 1 + r.Intn(9)
		x, m := made(t, room), &model{room: room}
		var keys []string
		for i := range 1 + r.Intn(12) {
			keys = append(keys, letter(i))
		}
		for range 150 {
			play(t, r, x, m, keys)
			expect(t, x, m, keys...)
		}
	}
}

// A long run in a large table: nothing is left over of what was removed.
func TestP11_2Long(t *testing.T) {
	x := made(t, 4096)
	for i := range 200000 {
		if x.Full() {
			key, value, _ := x.Oldest()
			if value != i-4096 || key != strconv.Itoa(value) || x.Drop(key) != api.OK {
				t.Fatal(i, key, value)
			}
		}
		if e := x.Put(strconv.Itoa(i), i); e != api.OK {
			t.Fatal(i, e)
		}
	}
	if n := x.Prune(func(_ string, v int) bool { return v%2 == 0 }); n != 2048 || x.Len() != 2048 || x.Room() != 2048 {
		t.Fatal(n, x.Len(), x.Room())
	}
}
