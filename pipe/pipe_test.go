package pipe_test

import (
	"bytes"
	"crypto/sha256"
	"fmt"
	"iter"
	"math"
	"math/rand"
	"slices"
	"testing"

	"ostiary/api"
	"ostiary/pipe"
)

// badWays are numbers that no direction has.
var badWays = []int{-1, 2, 3, -2, 256, 257, 1 << 32, 1<<32 + 1, math.MaxInt, math.MinInt}

// side is a slow direction: every byte ever written, and how many of them were read.
type side struct {
	written []byte
	read    int
	shut    bool
	cut     bool
}

func (s *side) waits() []byte {
	if s.cut {
		return nil
	}
	return s.written[s.read:]
}

// model is a slow pipe.
type model struct {
	room  int
	sides [2]side
}

func (m *model) write(way int, b []byte) (int, api.Errno) {
	s := &m.sides[way]
	if s.shut {
		return 0, api.ErrState
	}
	n := 0
	for n < len(b) && len(s.waits()) < m.room {
		s.written = append(s.written, b[n])
		n++
	}
	return n, api.OK
}

func (m *model) take(way, most int) []byte {
	s := &m.sides[way]
	var b []byte
	for len(b) < most && len(s.waits()) > 0 {
		b = append(b, s.waits()[0])
		s.read++
	}
	return b
}

func (m *model) shut(way int) api.Errno {
	if m.sides[way].shut {
		return api.ErrState
	}
	m.sides[way].shut = true
	return api.OK
}

func (m *model) cut() {
	for i := range m.sides {
		m.sides[i].shut, m.sides[i].cut = true, true
	}
}

func (m *model) over() bool {
	for i := range m.sides {
		if !m.sides[i].shut || len(m.sides[i].waits()) > 0 {
			return false
		}
	}
	return true
}

// made returns a new pipe and its model.
func made(t *testing.T, room int) (*pipe.Pipe, *model) {
	t.Helper()
	p, e := pipe.New(room)
	if p == nil || e != api.OK {
		t.Fatal("a pipe with room for", room, "bytes:", e)
	}
	return p, &model{room: room}
}

// filled returns a new pipe in whose directions so many bytes wait, and its model.
func filled(t *testing.T, room, up, down int) (*pipe.Pipe, *model) {
	t.Helper()
	p, m := made(t, room)
	write(t, p, m, pipe.Up, []byte("abcdefghij")[:up])
	write(t, p, m, pipe.Down, []byte("ABCDEFGHIJ")[:down])
	return p, m
}

// write writes to a pipe and to its model.
func write(t *testing.T, p *pipe.Pipe, m *model, way int, b []byte) {
	t.Helper()
	want, e := m.write(way, b)
	if n, errno := p.Write(way, b); n != want || errno != e {
		t.Fatalf("%d of %d bytes are written, %d, not %d, %d", n, len(b), errno, want, e)
	}
	expect(t, p, m)
}

// read reads from a pipe and from its model.
func read(t *testing.T, p *pipe.Pipe, m *model, way, most int) {
	t.Helper()
	want := m.take(way, most)
	if b, e := p.Read(way, most); !bytes.Equal(b, want) || e != api.OK {
		t.Fatalf("%q, %d, not %q, is read", b, e, want)
	}
	expect(t, p, m)
}

// shut shuts a direction of a pipe and of its model.
func shut(t *testing.T, p *pipe.Pipe, m *model, way int) {
	t.Helper()
	want := m.shut(way)
	if e := p.Shut(way); e != want {
		t.Fatalf("shut: %d, not %d", e, want)
	}
	expect(t, p, m)
}

// expect checks everything that a pipe tells about itself.
func expect(t *testing.T, p *pipe.Pipe, m *model) {
	t.Helper()
	for way := range m.sides {
		s := &m.sides[way]
		waits := len(s.waits())
		sum := sha256.Sum256(s.written[:s.read])
		w, e := p.Look(way)
		if e != api.OK || w.Waits != waits || w.Shut != s.shut || w.Wrote != uint64(len(s.written)) || w.Read != uint64(s.read) || !bytes.Equal(w.Sum, sum[:]) {
			t.Fatalf("way %d is %+v, %d, with %d of %d bytes read, %d waiting, shut %t", way, w, e, s.read, len(s.written), waits, s.shut)
		}
		room := m.room - waits
		if s.shut {
			room = 0
		}
		if got := p.Room(way); got != room {
			t.Fatalf("way %d has room for %d, not %d", way, got, room)
		}
	}
	if p.Over() != m.over() {
		t.Fatalf("over is %t", p.Over())
	}
}

// overwrite changes a slice and its spare capacity.
func overwrite(p []byte) {
	p = p[:cap(p)]
	for i := range p {
		p[i] ^= 0xff
	}
}

// sample returns n bytes that are the same in every run.
func sample(n int) []byte {
	p := make([]byte, n)
	rand.New(rand.NewSource(int64(n))).Read(p)
	return p
}

func TestP22_1New(t *testing.T) {
	for _, room := range []int{1, 2, 3, 64, 255, 256, 4095, 4096} {
		for way := range 2 {
			p, m := made(t, room)
			expect(t, p, m)
			write(t, p, m, way, sample(room+1))
			read(t, p, m, way, room+1)
			write(t, p, m, way, sample(room))
		}
	}
	for _, room := range []int{0, -1, -4096, 4097, 8192, 65537, 1<<32 + 1, math.MaxInt, math.MinInt} {
		if p, e := pipe.New(room); p != nil || e != api.ErrArg {
			t.Error(room, p, e)
		}
	}
}

func TestP22_1Example(t *testing.T) {
	p, _ := made(t, 4)
	if n, e := p.Write(pipe.Up, []byte("abcde")); n != 4 || e != api.OK {
		t.Error(n, e)
	}
	if b, e := p.Read(pipe.Up, 2); string(b) != "ab" || e != api.OK {
		t.Errorf("%q, %d", b, e)
	}
	if n, e := p.Write(pipe.Up, []byte("fg")); n != 2 || e != api.OK {
		t.Error(n, e)
	}
	if b, e := p.Read(pipe.Up, 9); string(b) != "cdfg" || e != api.OK {
		t.Errorf("%q, %d", b, e)
	}
}

// The directions have the chapter's numbers.
func TestP22_1Ways(t *testing.T) {
	if pipe.Up != 0 || pipe.Down != 1 {
		t.Error(pipe.Up, pipe.Down)
	}
}

func TestP22_1Write(t *testing.T) {
	for room := 1; room <= 5; room++ {
		for before := range room + 1 {
			for n := range 8 {
				p, m := filled(t, room, before, room-before)
				write(t, p, m, pipe.Up, sample(n))
				write(t, p, m, pipe.Down, sample(n))
				write(t, p, m, pipe.Up, nil)
			}
		}
	}
}

// More than fits is not written later either.
func TestP22_1WriteMore(t *testing.T) {
	p, m := made(t, 3)
	write(t, p, m, pipe.Up, []byte("abcdef"))
	read(t, p, m, pipe.Up, 2)
	expect(t, p, m)
	read(t, p, m, pipe.Up, 9)
	read(t, p, m, pipe.Up, 9)
}

func TestP22_1WriteErrors(t *testing.T) {
	for _, b := range [][]byte{nil, []byte("x"), sample(10)} {
		p, m := filled(t, 4, 1, 2)
		for _, way := range badWays {
			if n, e := p.Write(way, b); n != 0 || e != api.ErrArg {
				t.Fatal(way, n, e)
			}
		}
		expect(t, p, m)
		shut(t, p, m, pipe.Up)
		if n, e := p.Write(pipe.Up, b); n != 0 || e != api.ErrState {
			t.Fatal(n, e)
		}
		expect(t, p, m)
		write(t, p, m, pipe.Down, b)
		shut(t, p, m, pipe.Down)
		write(t, p, m, pipe.Down, b)
		for _, way := range badWays {
			if n, e := p.Write(way, b); n != 0 || e != api.ErrArg {
				t.Fatal(way, n, e)
			}
		}
		expect(t, p, m)
	}
	// A full direction that is shut is shut, and not only full.
	p, m := filled(t, 2, 2, 0)
	write(t, p, m, pipe.Up, []byte("x"))
	shut(t, p, m, pipe.Up)
	if n, e := p.Write(pipe.Up, []byte("x")); n != 0 || e != api.ErrState {
		t.Fatal(n, e)
	}
}

func TestP22_1Read(t *testing.T) {
	for n := range 6 {
		for _, most := range []int{math.MinInt, -2, -1, 0, 1, 2, 3, 4, 5, 6, 4096, 1 << 32, math.MaxInt} {
			for way := range 2 {
				p, m := filled(t, 6, n, 5-n)
				for range 3 {
					read(t, p, m, way, most)
				}
				// What waits can be read from a direction that is shut, too.
				p, m = filled(t, 6, n, 5-n)
				shut(t, p, m, way)
				for range 3 {
					read(t, p, m, way, most)
				}
			}
		}
	}
}

func TestP22_1ReadErrors(t *testing.T) {
	p, m := filled(t, 4, 1, 2)
	for range 3 {
		for _, way := range badWays {
			for _, most := range []int{-1, 0, 1, 9} {
				if b, e := p.Read(way, most); len(b) != 0 || e != api.ErrArg {
					t.Fatalf("%d: %q, %d", way, b, e)
				}
			}
		}
		expect(t, p, m)
		p.Shut(pipe.Up)
		p.Shut(pipe.Down)
		m.shut(pipe.Up)
		m.shut(pipe.Down)
	}
}

func TestP22_1Shut(t *testing.T) {
	for way := range 2 {
		for n := range 3 {
			p, m := filled(t, 2, n, 2-n)
			for range 2 {
				shut(t, p, m, way)
			}
			write(t, p, m, way, []byte("x"))
			write(t, p, m, 1-way, []byte("y"))
			read(t, p, m, way, 1)
			shut(t, p, m, 1-way)
			shut(t, p, m, 1-way)
			shut(t, p, m, way)
		}
	}
}

func TestP22_1ShutErrors(t *testing.T) {
	p, m := filled(t, 2, 1, 0)
	for range 2 {
		for _, way := range badWays {
			if e := p.Shut(way); e != api.ErrArg {
				t.Fatal(way, e)
			}
		}
		expect(t, p, m)
		shut(t, p, m, pipe.Up)
		shut(t, p, m, pipe.Down)
	}
}

// Whatever waits and is shut, a cut leaves nothing but the totals.
func TestP22_1Cut(t *testing.T) {
	for bits := range 1 << 6 {
		p, m := filled(t, 4, bits&3, bits>>2&3)
		read(t, p, m, pipe.Up, 1)
		for way := range 2 {
			if bits>>(4+way)&1 == 1 {
				shut(t, p, m, way)
			}
		}
		for range 2 {
			p.Cut()
			m.cut()
			expect(t, p, m)
			if !p.Over() {
				t.Fatal("a pipe that was cut is not over")
			}
			for way := range 2 {
				read(t, p, m, way, 9)
				write(t, p, m, way, []byte("x"))
				shut(t, p, m, way)
				for piece := range p.Chunks(way, 1) {
					t.Fatalf("%q was left", piece)
				}
			}
		}
	}
}

// pieces collects what an iterator yields.
func pieces(seq iter.Seq[[]byte]) []string {
	var list []string
	for piece := range seq {
		list = append(list, string(piece))
	}
	return list
}

// cutUp returns the pieces of a text, the last one being the remainder.
func cutUp(text string, size int) []string {
	var list []string
	for text != "" {
		n := min(size, len(text))
		list = append(list, text[:n])
		text = text[n:]
	}
	return list
}

func TestP22_1Chunks(t *testing.T) {
	for n := range 8 {
		for _, size := range []int{1, 2, 3, 4, 5, 6, 7, 8, 4096, math.MaxInt} {
			for way := range 2 {
				for _, ends := range []bool{false, true} {
					p, m := filled(t, 8, n, n)
					if ends {
						shut(t, p, m, way)
					}
					chunks := p.Chunks(way, size)
					expect(t, p, m) // nothing is read before it is ranged over
					want := cutUp(string(m.take(way, n)), size)
					if got := pieces(chunks); !slices.Equal(got, want) {
						t.Fatalf("%d bytes in pieces of %d: %q, not %q", n, size, got, want)
					}
					expect(t, p, m)
					if got := pieces(chunks); got != nil {
						t.Fatalf("%q is read again", got)
					}
				}
			}
		}
	}
}

func TestP22_1ChunksNothing(t *testing.T) {
	p, m := filled(t, 4, 3, 2)
	for _, size := range []int{0, -1, -4, math.MinInt} {
		for way := range 2 {
			if got := pieces(p.Chunks(way, size)); got != nil {
				t.Errorf("pieces of %d: %q", size, got)
			}
		}
	}
	for _, way := range badWays {
		for _, size := range []int{-1, 0, 1, 4} {
			chunks := p.Chunks(way, size)
			if chunks == nil {
				t.Fatal("a nil iterator")
			}
			if got := pieces(chunks); got != nil {
				t.Errorf("way %d: %q", way, got)
			}
		}
	}
	expect(t, p, m)
}

// Each piece is read when it is yielded: at that point it has left the buffer, and what follows has not.
func TestP22_1ChunksOneByOne(t *testing.T) {
	for size := 1; size <= 8; size++ {
		p, m := filled(t, 8, 7, 7)
		for piece := range p.Chunks(pipe.Up, size) {
			if want := m.take(pipe.Up, size); !bytes.Equal(piece, want) {
				t.Fatalf("%q, not %q", piece, want)
			}
			expect(t, p, m)
		}
		expect(t, p, m)
	}
}

// Where the consumer stops, the rest still waits, and the iterator goes on there.
func TestP22_1ChunksStop(t *testing.T) {
	for size := 1; size <= 3; size++ {
		for stop := 1; stop <= 4; stop++ {
			p, m := filled(t, 8, 7, 0)
			chunks := p.Chunks(pipe.Up, size)
			got := 0
			chunks(func(piece []byte) bool {
				got++
				if want := m.take(pipe.Up, size); !bytes.Equal(piece, want) {
					t.Fatalf("%q, not %q", piece, want)
				}
				return got < stop
			})
			expect(t, p, m)
			want := cutUp(string(m.take(pipe.Up, 7)), size)
			if rest := pieces(chunks); !slices.Equal(rest, want) {
				t.Fatalf("%q, not %q", rest, want)
			}
			expect(t, p, m)
		}
	}
}

// An iterator goes on until the buffer is empty, whatever happens to the pipe meanwhile.
func TestP22_1ChunksWhileChanged(t *testing.T) {
	for what, c := range map[string]struct {
		change func(*pipe.Pipe)
		want   []string
	}{
		"write":          {func(p *pipe.Pipe) { p.Write(pipe.Up, []byte("xyz")) }, []string{"ab", "cd", "ex", "yz"}},
		"write too much": {func(p *pipe.Pipe) { p.Write(pipe.Up, []byte("xyzuvw")) }, []string{"ab", "cd", "ex", "yz", "u"}},
		"write down":     {func(p *pipe.Pipe) { p.Write(pipe.Down, []byte("xyz")) }, []string{"ab", "cd", "e"}},
		"read":           {func(p *pipe.Pipe) { p.Read(pipe.Up, 1) }, []string{"ab", "de"}},
		"read all":       {func(p *pipe.Pipe) { p.Read(pipe.Up, 9) }, []string{"ab"}},
		"read down":      {func(p *pipe.Pipe) { p.Read(pipe.Down, 9) }, []string{"ab", "cd", "e"}},
		"shut":           {func(p *pipe.Pipe) { p.Shut(pipe.Up) }, []string{"ab", "cd", "e"}},
		"cut":            {func(p *pipe.Pipe) { p.Cut() }, []string{"ab"}},
	} {
		p, _ := filled(t, 7, 5, 5)
		var got []string
		for piece := range p.Chunks(pipe.Up, 2) {
			if got == nil {
				c.change(p)
			}
			got = append(got, string(piece))
		}
		if !slices.Equal(got, c.want) {
			t.Errorf("%s: %q, not %q", what, got, c.want)
		}
	}
	// Also for ever, if the consumer wants it.
	p, m := filled(t, 4, 2, 0)
	rounds := 0
	for piece := range p.Chunks(pipe.Up, 3) {
		if want := m.take(pipe.Up, 3); !bytes.Equal(piece, want) {
			t.Fatalf("%q, not %q", piece, want)
		}
		if rounds++; rounds < 100 {
			write(t, p, m, pipe.Up, sample(rounds%4+1))
		}
	}
	if rounds < 100 {
		t.Error(rounds)
	}
	expect(t, p, m)
}

// A pipe is over when both directions are shut and empty, and not before.
func TestP22_2Over(t *testing.T) {
	for bits := range 1 << 4 {
		p, m := filled(t, 2, bits&1, bits>>1&1)
		for way := range 2 {
			if bits>>(2+way)&1 == 1 {
				shut(t, p, m, way)
			}
		}
		if p.Over() != (bits == 0b1100) {
			t.Fatalf("%04b: %t", bits, p.Over())
		}
		for way := range 2 {
			read(t, p, m, way, 1)
		}
		if p.Over() != (bits>>2 == 3) {
			t.Fatalf("%04b, read: %t", bits, p.Over())
		}
	}
}

func TestP22_2Room(t *testing.T) {
	p, m := made(t, 5)
	for i := range 7 {
		for _, way := range badWays {
			if n := p.Room(way); n != 0 {
				t.Fatal(way, n)
			}
		}
		if up, down := p.Room(pipe.Up), p.Room(pipe.Down); up != max(0, 5-i) || down != 5 {
			t.Fatal(i, up, down)
		}
		write(t, p, m, pipe.Up, []byte("x"))
	}
	read(t, p, m, pipe.Up, 2)
	if n := p.Room(pipe.Up); n != 2 {
		t.Fatal(n)
	}
	shut(t, p, m, pipe.Up)
	if up, down := p.Room(pipe.Up), p.Room(pipe.Down); up != 0 || down != 5 {
		t.Fatal(up, down)
	}
	p.Cut()
	if up, down := p.Room(pipe.Up), p.Room(pipe.Down); up != 0 || down != 0 {
		t.Fatal(up, down)
	}
}

func TestP22_2Look(t *testing.T) {
	p, m := filled(t, 4, 3, 9)
	read(t, p, m, pipe.Down, 3)
	shut(t, p, m, pipe.Down)
	sum := sha256.Sum256([]byte("ABC"))
	for range 2 {
		w, e := p.Look(pipe.Down)
		if e != api.OK || w.Waits != 1 || !w.Shut || w.Wrote != 4 || w.Read != 3 || !bytes.Equal(w.Sum, sum[:]) {
			t.Fatalf("%+v, %d", w, e)
		}
	}
	sum = sha256.Sum256(nil)
	if w, e := p.Look(pipe.Up); e != api.OK || w.Waits != 3 || w.Shut || w.Wrote != 3 || w.Read != 0 || !bytes.Equal(w.Sum, sum[:]) {
		t.Fatalf("%+v, %d", w, e)
	}
	for _, way := range badWays {
		if w, e := p.Look(way); e != api.ErrArg || w.Waits != 0 || w.Shut || w.Wrote != 0 || w.Read != 0 || len(w.Sum) != 0 {
			t.Fatalf("%d: %+v, %d", way, w, e)
		}
	}
}

// What is discarded was written, but not read.
func TestP22_2LookCut(t *testing.T) {
	p, m := filled(t, 4, 3, 0)
	read(t, p, m, pipe.Up, 1)
	p.Cut()
	sum := sha256.Sum256([]byte("a"))
	if w, e := p.Look(pipe.Up); e != api.OK || w.Waits != 0 || !w.Shut || w.Wrote != 3 || w.Read != 1 || !bytes.Equal(w.Sum, sum[:]) {
		t.Fatalf("%+v, %d", w, e)
	}
}

func TestP22_2Nil(t *testing.T) {
	var p *pipe.Pipe
	for _, way := range append([]int{pipe.Up, pipe.Down}, badWays...) {
		if n, e := p.Write(way, []byte("x")); n != 0 || e != api.ErrNone {
			t.Error(way, n, e)
		}
		if b, e := p.Read(way, 1); len(b) != 0 || e != api.ErrNone {
			t.Error(way, b, e)
		}
		if e := p.Shut(way); e != api.ErrNone {
			t.Error(way, e)
		}
		if n := p.Room(way); n != 0 {
			t.Error(way, n)
		}
		if w, e := p.Look(way); e != api.ErrNone || w.Waits != 0 || w.Shut || w.Wrote != 0 || w.Read != 0 || len(w.Sum) != 0 {
			t.Errorf("%d: %+v, %d", way, w, e)
		}
		for _, size := range []int{-1, 0, 1} {
			chunks := p.Chunks(way, size)
			if chunks == nil {
				t.Fatal("a nil iterator")
			}
			if got := pieces(chunks); got != nil {
				t.Error(way, got)
			}
		}
	}
	p.Cut()
	if !p.Over() {
		t.Error("a nil pipe is not over")
	}
}

// A long message passes unchanged through a short pipe, in both directions at once.
func TestP22_3Stream(t *testing.T) {
	r := rand.New(rand.NewSource(1))
	for _, room := range []int{1, 2, 7, 64, 1000, 4096} {
		p, _ := made(t, room)
		sent := [2][]byte{sample(20 * room), sample(20*room + 1)}
		left := [2][]byte{sent[0], sent[1]}
		var got [2][]byte
		for len(got[0]) < len(sent[0]) || len(got[1]) < len(sent[1]) {
			way := r.Intn(2)
			n, e := p.Write(way, left[way][:min(len(left[way]), r.Intn(2*room+1))])
			if e != api.OK {
				t.Fatal(e)
			}
			left[way] = left[way][n:]
			b, e := p.Read(way, r.Intn(room+2))
			if e != api.OK {
				t.Fatal(e)
			}
			got[way] = append(got[way], b...)
		}
		for way := range 2 {
			sum := sha256.Sum256(sent[way])
			if w, e := p.Look(way); e != api.OK || !bytes.Equal(got[way], sent[way]) || !bytes.Equal(w.Sum, sum[:]) {
				t.Fatalf("room %d, way %d: another message arrives: %+v, %d", room, way, w, e)
			}
		}
	}
}

// play does one random thing to a pipe and its model.
func play(t *testing.T, r *rand.Rand, p *pipe.Pipe, m *model) {
	t.Helper()
	way := r.Intn(2)
	switch choice := r.Intn(100); {
	case choice < 45:
		write(t, p, m, way, sample(r.Intn(2*m.room+2)))
	case choice < 85:
		read(t, p, m, way, r.Intn(m.room+3)-1)
	case choice < 96:
		size, stop := r.Intn(m.room+2), 1+r.Intn(4)
		for piece := range p.Chunks(way, size) {
			if want := m.take(way, size); !bytes.Equal(piece, want) {
				t.Fatalf("%q, not %q", piece, want)
			}
			if stop--; stop == 0 {
				break
			}
			if r.Intn(3) == 0 {
				write(t, p, m, r.Intn(2), sample(r.Intn(m.room+1)))
			}
		}
	case choice < 99:
		shut(t, p, m, way)
	default:
		p.Cut()
		m.cut()
	}
	expect(t, p, m)
}

// At any time the bytes written are the bytes read followed by those that wait.
func TestP22_3Random(t *testing.T) {
	for seed := range 300 {
		r := rand.New(rand.NewSource(int64(seed)))
		p, m := made(t, 1+r.Intn(9))
		for range 120 {
			play(t, r, p, m)
		}
		for way := range 2 {
			read(t, p, m, way, m.room)
		}
	}
}

// The directions, and several pipes, are independent of each other.
func TestP22_3Independent(t *testing.T) {
	p, m := made(t, 3)
	q, k := made(t, 5)
	for i := range 6 {
		write(t, p, m, i%2, []byte(fmt.Sprint("p", i)))
		write(t, q, k, i%2, []byte(fmt.Sprint("q", i)))
		read(t, p, m, 1-i%2, 1)
		expect(t, q, k)
	}
	p.Cut()
	m.cut()
	expect(t, p, m)
	expect(t, q, k)
	shut(t, q, k, pipe.Down)
	read(t, q, k, pipe.Up, 9)
	read(t, q, k, pipe.Down, 9)
}

// What is written is copied and left as it is, also behind its end; what is read, yielded or told shares no memory.
func TestP22_3Memory(t *testing.T) {
	p, m := made(t, 8)
	all := []byte("abcdef, and more")
	write(t, p, m, pipe.Up, all[:6])
	write(t, p, m, pipe.Up, all[:6]) // two of them fit
	write(t, p, m, pipe.Down, all[:3])
	if string(all) != "abcdef, and more" {
		t.Fatalf("an argument was changed: %q", all)
	}
	overwrite(all)
	first, _ := p.Read(pipe.Up, 2)
	second, _ := p.Read(pipe.Up, 2)
	none, _ := p.Read(pipe.Up, 0)
	if string(first) != "ab" || string(second) != "cd" || len(none) != 0 {
		t.Fatalf("%q, %q, %q", first, second, none)
	}
	overwrite(first)
	overwrite(none)
	if string(second) != "cd" {
		t.Fatalf("results share memory: %q", second)
	}
	m.take(pipe.Up, 4)
	expect(t, p, m)
	for piece := range p.Chunks(pipe.Up, 3) {
		if want := m.take(pipe.Up, 3); !bytes.Equal(piece, want) {
			t.Fatalf("%q, not %q", piece, want)
		}
		overwrite(piece)
		if w, e := p.Look(pipe.Up); e == api.OK {
			overwrite(w.Sum)
		}
		expect(t, p, m)
	}
	write(t, p, m, pipe.Up, []byte("xyz"))
	kept, _ := p.Read(pipe.Down, 3)
	m.take(pipe.Down, 3)
	write(t, p, m, pipe.Down, []byte("XYZ"))
	p.Cut()
	m.cut()
	expect(t, p, m)
	if string(kept) != "abc" {
		t.Fatalf("a cut changes what was read: %q", kept)
	}
}
