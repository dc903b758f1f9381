package span_test

import (
	"math"
	"math/big"
	"math/rand"
	"slices"
	"testing"

	"ostiary/span"
)

const most = 1 << 40 // the largest tick

// The numbers around which something changes.
func telling() []uint64 {
	list := []uint64{0, 1, 2, 3, 4, 5, 7, 8, 9, 10, 15, 16, 17, 99, 100, 101, most / 3, most/2 - 1, most / 2, most/2 + 1, most - 2, most - 1, most, most + 1, most + 2, 2*most - 1, 2 * most, 2*most + 1, 3 * most}
	for shift := 42; shift < 64; shift += 7 {
		list = append(list, 1<<shift-1, 1<<shift, 1<<shift+1)
	}
	return append(list, math.MaxUint64/2, math.MaxUint64-most, math.MaxUint64-1, math.MaxUint64)
}

// number is a random one, of any size.
func number(r *rand.Rand) uint64 {
	return r.Uint64() >> r.Intn(64)
}

func natural(n uint64) *big.Int {
	return new(big.Int).SetUint64(n)
}

// limited returns n as a tick.
func limited(n *big.Int) uint64 {
	if n.Sign() < 0 {
		return 0
	}
	if n.Cmp(natural(most)) > 0 {
		return most
	}
	return n.Uint64()
}

func limit(n uint64) uint64 {
	return limited(natural(n))
}

// wantWait reads the chapter with numbers of any size. A shift by 200 makes all numbers but zero greater than any maximum.
func wantWait(base, top uint64, k int) uint64 {
	wait := natural(base)
	wait.Lsh(wait, uint(min(max(k, 0), 200)))
	if wait.Cmp(natural(top)) > 0 {
		wait = natural(top)
	}
	return limited(wait)
}

// total adds up the waits after 1 .. n failures. From the hundredth on they are equal.
func total(base, top, n uint64) *big.Int {
	sum := new(big.Int)
	for k := uint64(1); k <= min(n, 100); k++ {
		sum.Add(sum, natural(wantWait(base, top, int(k))))
	}
	if n > 100 {
		last := natural(wantWait(base, top, 101))
		sum.Add(sum, last.Mul(last, natural(n-100)))
	}
	return sum
}

func TestP10_1AddSub(t *testing.T) {
	check := func(a, b uint64) {
		t.Helper()
		x, y := natural(limit(a)), natural(limit(b))
		if got, want := span.Add(a, b), limited(new(big.Int).Add(x, y)); got != want {
			t.Fatalf("%d + %d is %d, not %d", a, b, got, want)
		}
		if got, want := span.Sub(a, b), limited(new(big.Int).Sub(x, y)); got != want {
			t.Fatalf("%d - %d is %d, not %d", a, b, got, want)
		}
	}
	for _, a := range telling() {
		for _, b := range telling() {
			check(a, b)
		}
	}
	r := rand.New(rand.NewSource(1))
	for range 100000 {
		check(number(r), number(r))
	}
}

func TestP10_1AddSubEdges(t *testing.T) {
	for _, c := range []struct{ a, b, sum, difference uint64 }{
		{0, 0, 0, 0},
		{5, 3, 8, 2},
		{3, 5, 8, 0},
		{most, 1, most, most - 1},
		{most - 1, 1, most, most - 2},
		{most + 1, 1, most, most - 1},
		{most + 5, most + 3, most, 0},
		{math.MaxUint64, 1, most, most - 1},
		{1, math.MaxUint64, most, 0},
		{math.MaxUint64, math.MaxUint64, most, 0},
		{math.MaxUint64, most - 1, most, 1},
	} {
		if sum, difference := span.Add(c.a, c.b), span.Sub(c.a, c.b); sum != c.sum || difference != c.difference {
			t.Errorf("%d and %d: %d, %d", c.a, c.b, sum, difference)
		}
	}
}

func TestP10_1Wait(t *testing.T) {
	var counts []int
	for k := -2; k < 70; k++ {
		counts = append(counts, k)
	}
	counts = append(counts, -64, -63, math.MinInt, math.MinInt+1, 127, 128, 129, 255, 256, 1000, 1<<32-1, 1<<32, 1<<32+1, math.MaxInt-1, math.MaxInt)
	for _, base := range telling() {
		for _, top := range telling() {
			for _, k := range counts {
				if got, want := span.Wait(base, top, k), wantWait(base, top, k); got != want {
					t.Fatalf("base %d, maximum %d, %d failures: %d, not %d", base, top, k, got, want)
				}
			}
		}
	}
	r := rand.New(rand.NewSource(2))
	for range 100000 {
		base, top, k := number(r), number(r), r.Intn(70)
		if got, want := span.Wait(base, top, k), wantWait(base, top, k); got != want {
			t.Fatalf("base %d, maximum %d, %d failures: %d, not %d", base, top, k, got, want)
		}
	}
}

func TestP10_1WaitEdges(t *testing.T) {
	for _, c := range []struct {
		base, top uint64
		k         int
		want      uint64
	}{
		{3, 100, 4, 48},
		{3, 40, 4, 40},
		{3, 48, 4, 48},
		{3, 100, 0, 3},
		{3, 100, 1, 6},
		{3, 100, -1, 3},
		{3, 100, math.MinInt, 3},
		{3, 2, 0, 2},
		{0, 100, 5, 0},
		{0, 100, math.MaxInt, 0},
		{3, 0, 5, 0},
		{1, math.MaxUint64, 39, most / 2},
		{1, math.MaxUint64, 40, most},
		{1, math.MaxUint64, 41, most},
		{1, math.MaxUint64, 64, most},
		{1, math.MaxUint64, math.MaxInt, most},
		{1 << 63, math.MaxUint64, 1, most},
		{math.MaxUint64, 7, 1, 7},
		{math.MaxUint64, math.MaxUint64, 0, most},
	} {
		if got := span.Wait(c.base, c.top, c.k); got != c.want {
			t.Errorf("base %d, maximum %d, %d failures: %d, not %d", c.base, c.top, c.k, got, c.want)
		}
	}
}

// waits returns what the iterator yields first.
func waits(base, top uint64, n int) []uint64 {
	return taken(span.Waits(base, top), n)
}

func taken(seq func(func(uint64) bool), n int) []uint64 {
	var list []uint64
	if n == 0 {
		return nil
	}
	for wait := range seq {
		list = append(list, wait)
		if len(list) == n {
			break
		}
	}
	return list
}

func TestP10_1Waits(t *testing.T) {
	for _, base := range telling() {
		for _, top := range telling() {
			var want []uint64
			for k := 1; k <= 130; k++ {
				want = append(want, wantWait(base, top, k))
			}
			if got := waits(base, top, len(want)); !slices.Equal(got, want) {
				t.Fatalf("base %d, maximum %d: %d", base, top, got)
			}
		}
	}
	if got := waits(3, 40, 6); !slices.Equal(got, []uint64{6, 12, 24, 40, 40, 40}) {
		t.Error(got)
	}
}

// There is no end: it goes on long after the wait has reached its maximum, and when the wait is zero.
func TestP10_1WaitsEndless(t *testing.T) {
	for _, c := range []struct{ base, top, last uint64 }{{1, 5, 5}, {0, 5, 0}, {5, 0, 0}, {1, math.MaxUint64, most}} {
		got := waits(c.base, c.top, 100000)
		if len(got) != 100000 || got[99999] != c.last {
			t.Fatalf("base %d, maximum %d: %d waits", c.base, c.top, len(got))
		}
	}
}

// An iterator yields the same each time, also while it is ranged over, and nothing when the consumer has stopped.
func TestP10_1WaitsAgain(t *testing.T) {
	seq := span.Waits(1, 100)
	want := []uint64{2, 4, 8, 16, 32, 64, 100, 100}
	for n := range want {
		if got := taken(seq, n); !slices.Equal(got, want[:n]) {
			t.Fatal(n, got)
		}
	}
	outer := 0
	for wait := range seq {
		if wait != want[outer] || !slices.Equal(taken(seq, 8), want) {
			t.Fatal(outer, wait)
		}
		outer++
		if outer == len(want) {
			break
		}
	}
	calls := 0
	seq(func(uint64) bool {
		calls++
		return calls < 3
	})
	if calls != 3 {
		t.Fatal(calls, "values were yielded to a consumer that stopped at the third")
	}
}

func TestP10_1Within(t *testing.T) {
	check := func(now, from, window uint64) {
		t.Helper()
		end := new(big.Int).Add(natural(from), natural(window))
		want := natural(now).Cmp(natural(from)) >= 0 && natural(now).Cmp(end) <= 0
		if got := span.Within(now, from, window); got != want {
			t.Fatalf("now %d, from %d, window %d: %t", now, from, window, got)
		}
	}
	for _, now := range telling() {
		for _, from := range telling() {
			for _, window := range telling() {
				check(now, from, window)
			}
		}
	}
	r := rand.New(rand.NewSource(3))
	for range 100000 {
		from, window := number(r), number(r)
		for _, now := range []uint64{from - 1, from, from + 1, from + window - 1, from + window, from + window + 1, number(r)} {
			check(now, from, window)
		}
	}
}

func TestP10_1WithinEdges(t *testing.T) {
	for _, c := range []struct {
		now, from, window uint64
		want              bool
	}{
		{12, 7, 5, true},
		{12, 6, 5, false},
		{5, 6, 5, false},
		{5, 5, 0, true},
		{6, 5, 0, false},
		{most + 2, most + 1, 0, false},
		{most + 2, most + 1, 1, true},
		{most + 1, most + 2, 5, false},
		{math.MaxUint64, math.MaxUint64, 0, true},
		{math.MaxUint64, math.MaxUint64 - 1, 0, false},
		{math.MaxUint64, 0, math.MaxUint64, true},
		{math.MaxUint64, 0, math.MaxUint64 - 1, false},
		{0, math.MaxUint64, 1, false},
		{0, math.MaxUint64, math.MaxUint64, false},
	} {
		if got := span.Within(c.now, c.from, c.window); got != c.want {
			t.Errorf("now %d, from %d, window %d: %t", c.now, c.from, c.window, got)
		}
	}
}

// bound checks that the result is the largest number that the promise permits.
func bound(t *testing.T, ticks, base, top uint64) {
	t.Helper()
	n := span.Bound(ticks, base, top)
	ticks, base, top = limit(ticks), max(limit(base), 1), max(limit(top), 1)
	if ticks == 0 {
		if n != 0 {
			t.Fatalf("base %d, maximum %d: %d failures within no tick", base, top, n)
		}
		return
	}
	if n == 0 || total(base, top, n-1).Cmp(natural(ticks)) >= 0 || total(base, top, n).Cmp(natural(ticks)) < 0 {
		t.Fatalf("%d ticks, base %d, maximum %d: %d failures", ticks, base, top, n)
	}
}

func TestP10_2Bound(t *testing.T) {
	for _, base := range telling() {
		for _, top := range telling() {
			for _, ticks := range telling() {
				bound(t, ticks, base, top)
			}
		}
	}
	r := rand.New(rand.NewSource(4))
	for range 20000 {
		base, top := number(r), number(r)
		bound(t, number(r), base, top)
		// One tick more or less than the waits of some failures add up to is one failure more or less.
		sum := limited(total(max(limit(base), 1), max(limit(top), 1), uint64(r.Intn(60))))
		for _, ticks := range []uint64{sum - 1, sum, sum + 1} {
			bound(t, ticks, base, top)
		}
	}
}

// walk counts the failures within ticks, one after the other.
func walk(ticks, base, top uint64) uint64 {
	failures := uint64(0)
	for at := uint64(0); at < ticks; at += wantWait(base, top, int(failures)) {
		failures++
	}
	return failures
}

func TestP10_2BoundWalk(t *testing.T) {
	for base := uint64(1); base <= 20; base++ {
		for top := uint64(1); top <= 70; top++ {
			for ticks := range uint64(300) {
				if got, want := span.Bound(ticks, base, top), walk(ticks, base, top); got != want {
					t.Fatalf("%d ticks, base %d, maximum %d: %d, not %d", ticks, base, top, got, want)
				}
			}
		}
	}
}

func TestP10_2BoundEdges(t *testing.T) {
	for _, c := range []struct{ ticks, base, top, want uint64 }{
		{10, 1, 100, 3},
		{0, 1, 100, 0},
		{0, 0, 0, 0},
		{1, 1, 100, 1},
		{2, 1, 100, 1},
		{3, 1, 100, 2},
		{14, 1, 100, 3},
		{15, 1, 100, 4},
		{10, 0, 100, 3},
		{10, 1, 0, 10},
		{10, 0, 0, 10},
		{10, 5, 0, 10},
		{most, 1, 1, most},
		{most + 1, 1, 1, most},
		{math.MaxUint64, 0, 0, most},
		{most, 1, math.MaxUint64, 40},
		{math.MaxUint64, 1, math.MaxUint64, 40},
		{most, math.MaxUint64, math.MaxUint64, 1},
		{math.MaxUint64, math.MaxUint64, math.MaxUint64, 1},
		{most, most - 1, most - 1, 2},
		{most, most, most - 1, 2},
		{most, math.MaxUint64, 2, most / 2},
		{most, 1, 2, most / 2},
		{most - 1, 1, 2, most / 2},
		{most - 2, 1, 2, most/2 - 1},
	} {
		if got := span.Bound(c.ticks, c.base, c.top); got != c.want {
			t.Errorf("%d ticks, base %d, maximum %d: %d, not %d", c.ticks, c.base, c.top, got, c.want)
		}
	}
}

func TestP10_3Clock(t *testing.T) {
	r := rand.New(rand.NewSource(5))
	for _, start := range append(telling(), number(r), number(r)) {
		c := span.New(start)
		now := limit(start)
		for _, n := range append(telling(), number(r)%100) {
			c := span.New(start)
			want := limited(new(big.Int).Add(natural(now), natural(n)))
			if got := c.Tick(n); got != want || c.Now() != want {
				t.Fatalf("from %d by %d: %d, then %d", start, n, got, c.Now())
			}
		}
		for range 200 {
			if c.Now() != now || c.Now() != now {
				t.Fatalf("from %d: %d, not %d", start, c.Now(), now)
			}
			n := number(r) >> 20
			now = limited(new(big.Int).Add(natural(now), natural(n)))
			if got := c.Tick(n); got != now {
				t.Fatalf("from %d, by %d: %d, not %d", start, n, got, now)
			}
		}
	}
}

func TestP10_3ClockStops(t *testing.T) {
	c := span.New(most - 2)
	for _, want := range []uint64{most - 1, most, most, most} {
		if got := c.Tick(1); got != want || c.Now() != want {
			t.Fatal(got, c.Now(), want)
		}
	}
	if got := c.Tick(math.MaxUint64); got != most || c.Now() != most {
		t.Fatal(got, c.Now())
	}
	if c := span.New(math.MaxUint64); c.Now() != most || c.Tick(0) != most {
		t.Fatal(c.Now())
	}
}

// Each clock has a time of its own.
func TestP10_3TwoClocks(t *testing.T) {
	a, b := span.New(5), span.New(5)
	if a.Tick(7) != 12 || b.Now() != 5 || b.Tick(1) != 6 || a.Now() != 12 || a.Tick(0) != 12 {
		t.Fatal(a.Now(), b.Now())
	}
}

func TestP10_3Nil(t *testing.T) {
	var c *span.Clock
	for _, n := range []uint64{0, 1, most, math.MaxUint64} {
		if c.Tick(n) != 0 || c.Now() != 0 {
			t.Fatal("a nil clock has a time")
		}
	}
}
