package frame_test

import (
	"bytes"
	"math/rand"
	"slices"
	"testing"

	"ostiary/api"
	"ostiary/frame"
)

const (
	most  = 2048 // bytes of a body
	space = 8192 // bytes of a buffer
)

// sample returns n bytes that are the same in every run.
func sample(n int) []byte {
	p := make([]byte, n)
	rand.New(rand.NewSource(int64(n))).Read(p)
	return p
}

// overwrite changes a slice and its spare capacity.
func overwrite(p []byte) {
	p = p[:cap(p)]
	for i := range p {
		p[i] ^= 0xff
	}
}

// spare returns a copy of p whose spare capacity is filled, and a check that nothing of it changed.
func spare(t *testing.T, p []byte) ([]byte, func()) {
	t.Helper()
	all := append(slices.Clone(p), bytes.Repeat([]byte{0xa5}, 200)...)
	before := slices.Clone(all)
	return all[:len(p)], func() {
		t.Helper()
		if !bytes.Equal(all, before) {
			t.Fatal("an argument was changed")
		}
	}
}

// head writes what precedes a body.
func head(kind byte, size int) []byte {
	return []byte{kind, byte(size / 256), byte(size % 256)}
}

// encoded writes a frame.
func encoded(kind byte, body []byte) []byte {
	return append(head(kind, len(body)), body...)
}

func same(f, g frame.Frame) bool {
	return f.Kind == g.Kind && bytes.Equal(f.Body, g.Body)
}

// next checks that the Reader has that frame next.
func next(t *testing.T, r *frame.Reader, kind byte, body []byte) {
	t.Helper()
	before := r.Waiting()
	f, e := r.Next()
	if e != api.OK || !same(f, frame.Frame{Kind: kind, Body: body}) || r.Waiting() != before-3-len(body) || r.Broken() != api.OK {
		t.Fatalf("%d, %d bytes, %d, with %d left of %d, broken %d", f.Kind, len(f.Body), e, r.Waiting(), before, r.Broken())
	}
}

// short checks that there is no complete frame, again and again, and that so many bytes wait.
func short(t *testing.T, r *frame.Reader, waiting int) {
	t.Helper()
	for range 2 {
		if f, e := r.Next(); e != api.ErrShort || !same(f, frame.Frame{}) || r.Waiting() != waiting || r.Broken() != api.OK {
			t.Fatalf("%v, %d, with %d left, broken %d", f, e, r.Waiting(), r.Broken())
		}
	}
}

// broken checks that the Reader is broken with that error and stays so.
func broken(t *testing.T, r *frame.Reader, want api.Errno) {
	t.Helper()
	for range 2 {
		if f, e := r.Next(); e != want || !same(f, frame.Frame{}) || r.Waiting() != 0 || r.Broken() != want {
			t.Fatalf("%v, %d, with %d left, broken %d, not %d", f, e, r.Waiting(), r.Broken(), want)
		}
		if n := r.Feed(encoded(1, []byte("a"))); n != 0 || r.Waiting() != 0 || r.Broken() != want {
			t.Fatalf("a broken Reader takes %d bytes", n)
		}
		if n := r.Feed(nil); n != 0 {
			t.Fatalf("a broken Reader takes %d bytes of none", n)
		}
		for f := range r.Frames() {
			t.Fatalf("a broken Reader has %v", f)
		}
	}
}

// feed feeds all of p.
func feed(t *testing.T, r *frame.Reader, p []byte) {
	t.Helper()
	before := r.Waiting()
	if n := r.Feed(p); n != len(p) || r.Waiting() != before+len(p) {
		t.Fatalf("%d bytes of %d were taken, %d were there and %d are", n, len(p), before, r.Waiting())
	}
}

func TestP6_1PackUnpack(t *testing.T) {
	for kind := byte(1); kind <= 15; kind++ {
		for _, n := range []int{0, 1, 2, 3, 255, 256, 257, 511, 512, 2047, 2048} {
			body := sample(n)
			want := encoded(kind, body)
			p, e := frame.Pack(frame.Frame{Kind: kind, Body: body})
			if e != api.OK || !bytes.Equal(p, want) {
				t.Fatalf("kind %d, %d bytes: %x, %d", kind, n, p, e)
			}
			for _, more := range [][]byte{nil, {0}, {16, 0xff, 0xff}, want} {
				f, size, e := frame.Unpack(slices.Concat(p, more))
				if e != api.OK || size != len(want) || !same(f, frame.Frame{Kind: kind, Body: body}) {
					t.Fatalf("kind %d, %d bytes, %d behind it: %d, %d bytes, %d, %d", kind, n, len(more), f.Kind, len(f.Body), size, e)
				}
			}
		}
	}
}

func TestP6_1Example(t *testing.T) {
	if p, e := frame.Pack(frame.Frame{Kind: 2, Body: []byte("a")}); e != api.OK || !bytes.Equal(p, []byte{2, 0, 1, 0x61}) {
		t.Error(p, e)
	}
	if p, e := frame.Pack(frame.Frame{Kind: 15}); e != api.OK || !bytes.Equal(p, []byte{15, 0, 0}) {
		t.Error(p, e)
	}
}

func TestP6_1PackErrors(t *testing.T) {
	for kind := range 256 {
		valid := kind >= 1 && kind <= 15
		for _, n := range []int{0, 1, most, most + 1, most + 256, 65535, 65536, 65537, 1 << 20} {
			want := api.OK
			switch {
			case !valid:
				want = api.ErrArg
			case n > most:
				want = api.ErrLong
			}
			p, e := frame.Pack(frame.Frame{Kind: byte(kind), Body: make([]byte, n)})
			if e != want || e != api.OK && len(p) != 0 || e == api.OK && len(p) != n+3 {
				t.Fatalf("kind %d, %d bytes: %d bytes, %d, not %d", kind, n, len(p), e, want)
			}
		}
	}
}

func TestP6_1UnpackErrors(t *testing.T) {
	for _, p := range [][]byte{nil, {}, {1}, {0}, {16}, {0xff}, {1, 0}, {0, 0}, {16, 0xff}, {1, 0xff}} {
		if f, n, e := frame.Unpack(p); e != api.ErrShort || n != 0 || !same(f, frame.Frame{}) {
			t.Errorf("%x: %v, %d, %d", p, f, n, e)
		}
	}
	for kind := range 256 {
		for _, size := range []int{0, 1, 255, 256, most - 1, most, most + 1, most + 255, 4096, 32768, 65535} {
			for _, there := range []int{0, 1, size - 1, size, size + 1} {
				if there < 0 {
					continue
				}
				want := api.OK
				switch {
				case kind < 1 || kind > 15:
					want = api.ErrArg
				case size > most:
					want = api.ErrLong
				case there < size:
					want = api.ErrShort
				}
				f, n, e := frame.Unpack(append(head(byte(kind), size), make([]byte, there)...))
				if e != want || e != api.OK && (n != 0 || !same(f, frame.Frame{})) || e == api.OK && (n != 3+size || int(f.Kind) != kind || len(f.Body) != size) {
					t.Fatalf("kind %d, %d bytes of %d: %d bytes, %d, %d, not %d", kind, there, size, len(f.Body), n, e, want)
				}
			}
		}
	}
}

func TestP6_1EveryCut(t *testing.T) {
	p := encoded(3, sample(300))
	for n := range p {
		if f, size, e := frame.Unpack(p[:n]); e != api.ErrShort || size != 0 || !same(f, frame.Frame{}) {
			t.Fatalf("%d bytes: %d", n, e)
		}
	}
}

func TestP6_1Memory(t *testing.T) {
	body, bodySame := spare(t, []byte("body"))
	p, _ := frame.Pack(frame.Frame{Kind: 1, Body: body})
	bodySame()
	overwrite(p)
	if string(body) != "body" {
		t.Error("Pack hands out its argument")
	}
	q, qSame := spare(t, encoded(2, []byte("text")))
	f, _, _ := frame.Unpack(q)
	g, _, _ := frame.Unpack(q)
	qSame()
	overwrite(f.Body)
	qSame()
	overwrite(q)
	if string(g.Body) != "text" {
		t.Error("a frame shares memory")
	}
}

func TestP6_2Example(t *testing.T) {
	r := frame.NewReader()
	short(t, r, 0)
	feed(t, r, []byte{2, 0})
	short(t, r, 2)
	feed(t, r, []byte{1, 0x61})
	next(t, r, 2, []byte("a"))
	short(t, r, 0)
}

// TestP6_2EveryStep: a stream that is fed in steps of any size has the same frames.
func TestP6_2EveryStep(t *testing.T) {
	sizes := []int{0, 1, 5, 0, 255, 256, 300, 2048, 2, 2047, 0, 1000, 2048, 2048, 2048, 3}
	var stream []byte
	for i, n := range sizes {
		stream = append(stream, encoded(byte(i%15+1), sample(n))...)
	}
	for _, step := range []int{1, 2, 3, 4, 7, 100, 2051, 5000, space} {
		r := frame.NewReader()
		i := 0
		for rest := stream; len(rest) > 0 || r.Waiting() > 0; {
			rest = rest[r.Feed(rest[:min(step, len(rest))]):]
			for f := range r.Frames() {
				if !same(f, frame.Frame{Kind: byte(i%15 + 1), Body: sample(sizes[i])}) {
					t.Fatalf("steps of %d, frame %d: %d, %d bytes", step, i, f.Kind, len(f.Body))
				}
				i++
			}
		}
		if i != len(sizes) {
			t.Fatalf("steps of %d: %d frames", step, i)
		}
		short(t, r, 0)
	}
}

// TestP6_2Model: calls in any order are compared with a buffer that Unpack reads.
func TestP6_2Model(t *testing.T) {
	random := rand.New(rand.NewSource(1))
	ends := map[api.Errno]int{}
	for range 300 {
		r := frame.NewReader()
		var buffer []byte
		wantBroken := api.OK
		for range 60 {
			var p []byte
			switch random.Intn(30) {
			case 0:
				p = head(byte(random.Intn(18)), random.Intn(3000))
			case 1, 2, 3:
				p = encoded(byte(1+random.Intn(15)), sample(random.Intn(2049)))
			case 4, 5, 6, 7, 8, 9:
				p = encoded(byte(1+random.Intn(15)), sample(random.Intn(9)))
			}
			want := 0
			if wantBroken == api.OK {
				want = min(len(p), space-len(buffer))
				buffer = append(buffer, p[:want]...)
			}
			if n := r.Feed(p); n != want {
				t.Fatalf("%d bytes are taken, not %d", n, want)
			}
			if random.Intn(2) == 0 {
				wantFrame, size, errno := frame.Unpack(buffer)
				buffer = buffer[size:]
				if wantBroken != api.OK {
					errno = wantBroken
				} else if errno == api.ErrArg || errno == api.ErrLong {
					wantBroken, buffer = errno, nil
				}
				ends[errno]++
				if f, e := r.Next(); e != errno || !same(f, wantFrame) {
					t.Fatalf("%d, %d bytes, %d, not %d", f.Kind, len(f.Body), e, errno)
				}
			}
			if r.Waiting() != len(buffer) || r.Broken() != wantBroken {
				t.Fatalf("%d bytes wait, not %d; broken %d, not %d", r.Waiting(), len(buffer), r.Broken(), wantBroken)
			}
		}
	}
	for _, e := range []api.Errno{api.OK, api.ErrShort, api.ErrArg, api.ErrLong} {
		if ends[e] < 50 {
			t.Errorf("error %d: %d times", e, ends[e])
		}
	}
}

func TestP6_2FeedUntilFull(t *testing.T) {
	for _, first := range []int{0, 1, 2051, space - 1, space} {
		r := frame.NewReader()
		stream := bytes.Repeat(encoded(4, sample(most)), 6)
		feed(t, r, stream[:first])
		if n := r.Feed(stream[first:]); n != space-first || r.Waiting() != space {
			t.Fatalf("with %d bytes, %d are taken, and %d wait", first, n, r.Waiting())
		}
		if n := r.Feed([]byte{1}); n != 0 || r.Waiting() != space {
			t.Fatalf("a full buffer takes %d bytes", n)
		}
		next(t, r, 4, sample(most))
		if n := r.Feed(stream[space:]); n != 2051 || r.Waiting() != space {
			t.Fatalf("%d bytes are taken after a frame was removed", n)
		}
		for range 3 {
			next(t, r, 4, sample(most))
		}
		short(t, r, space-3*2051)
	}
}

// TestP6_2FullOfFrames: a full buffer of the shortest frames is handed out one by one.
func TestP6_2FullOfFrames(t *testing.T) {
	r := frame.NewReader()
	if n := r.Feed(bytes.Repeat([]byte{9, 0, 0}, 3000)); n != space {
		t.Fatal(n)
	}
	for range space / 3 {
		next(t, r, 9, nil)
	}
	short(t, r, space%3)
}

func TestP6_2FeedOfNothing(t *testing.T) {
	r := frame.NewReader()
	feed(t, r, nil)
	feed(t, r, []byte{})
	feed(t, r, []byte{1})
	feed(t, r, nil)
	short(t, r, 1)
}

// TestP6_2FeedLooksAtNothing: only Next finds what is wrong.
func TestP6_2FeedLooksAtNothing(t *testing.T) {
	r := frame.NewReader()
	feed(t, r, []byte{0, 0, 0, 0})
	if r.Broken() != api.OK {
		t.Error(r.Broken())
	}
	broken(t, r, api.ErrArg)
}

func TestP6_2Breaks(t *testing.T) {
	for _, c := range []struct {
		head []byte
		want api.Errno
	}{
		{head(0, 0), api.ErrArg},
		{head(16, 0), api.ErrArg},
		{head(255, 65535), api.ErrArg},
		{head(0, most+1), api.ErrArg},
		{head(1, most+1), api.ErrLong},
		{head(15, 65535), api.ErrLong},
	} {
		for _, more := range []int{0, 1, 4000} {
			r := frame.NewReader()
			feed(t, r, encoded(7, []byte("ok")))
			feed(t, r, c.head[:1])
			next(t, r, 7, []byte("ok"))
			short(t, r, 1)
			feed(t, r, c.head[1:2])
			short(t, r, 2)
			feed(t, r, c.head[2:])
			feed(t, r, bytes.Repeat([]byte{1, 0, 0}, more)[:more])
			broken(t, r, c.want)
		}
	}
}

func TestP6_2Frames(t *testing.T) {
	r := frame.NewReader()
	feed(t, r, slices.Concat(encoded(1, []byte("a")), encoded(2, nil), encoded(3, []byte("ccc")), []byte{4, 0}))
	all := r.Frames()
	if r.Waiting() != 15 {
		t.Fatal("frames are removed before they are ranged over")
	}
	read := func(count int) []byte {
		var kinds []byte
		for f := range all {
			kinds = append(kinds, f.Kind)
			if len(kinds) == count {
				break
			}
		}
		return kinds
	}
	if got := read(1); !bytes.Equal(got, []byte{1}) || r.Waiting() != 11 {
		t.Fatalf("%v, with %d left", got, r.Waiting())
	}
	next(t, r, 2, nil)
	if got := read(0); !bytes.Equal(got, []byte{3}) || r.Waiting() != 2 {
		t.Fatalf("%v, with %d left", got, r.Waiting())
	}
	short(t, r, 2)
	feed(t, r, []byte{1, 'd', 5, 0, 0, 16, 0, 0, 6, 0, 0})
	if got := read(0); !bytes.Equal(got, []byte{4, 5}) || r.Broken() != api.ErrArg {
		t.Fatalf("%v, broken %d", got, r.Broken())
	}
	broken(t, r, api.ErrArg)
}

// TestP6_2FramesStops: what follows the frame at which the consumer stops is still there.
func TestP6_2FramesStops(t *testing.T) {
	for stop := 1; stop <= 4; stop++ {
		r := frame.NewReader()
		for kind := byte(1); kind <= 4; kind++ {
			feed(t, r, encoded(kind, sample(int(kind))))
		}
		feed(t, r, head(0, 0))
		for f := range r.Frames() {
			if int(f.Kind) == stop {
				break
			}
		}
		for kind := stop + 1; kind <= 4; kind++ {
			next(t, r, byte(kind), sample(kind))
		}
		if r.Waiting() != 3 || r.Broken() != api.OK {
			t.Fatalf("stopped at %d: %d left, broken %d", stop, r.Waiting(), r.Broken())
		}
		broken(t, r, api.ErrArg)
	}
}

// TestP6_2FedWhileRanging: frames that come while others are ranged over follow them.
func TestP6_2FedWhileRanging(t *testing.T) {
	r := frame.NewReader()
	feed(t, r, encoded(1, nil))
	var kinds []byte
	for f := range r.Frames() {
		kinds = append(kinds, f.Kind)
		if f.Kind < 5 {
			feed(t, r, encoded(f.Kind+1, nil))
		}
	}
	if !bytes.Equal(kinds, []byte{1, 2, 3, 4, 5}) {
		t.Error(kinds)
	}
}

func TestP6_2Memory(t *testing.T) {
	r := frame.NewReader()
	p, unchanged := spare(t, slices.Concat(encoded(1, []byte("one")), encoded(2, []byte("two")), encoded(3, []byte("three"))))
	feed(t, r, p)
	unchanged()
	overwrite(p)
	f, e := r.Next()
	if e != api.OK || string(f.Body) != "one" {
		t.Fatal(f, e)
	}
	overwrite(f.Body)
	g, _ := r.Next()
	h, _ := r.Next()
	feed(t, r, encoded(4, []byte("four")))
	if string(g.Body) != "two" || string(h.Body) != "three" {
		t.Errorf("frames share memory: %q, %q", g.Body, h.Body)
	}
	overwrite(g.Body)
	overwrite(h.Body)
	next(t, r, 4, []byte("four"))
	q, unchanged := spare(t, bytes.Repeat([]byte{5, 0, 0}, 3000)) // more than fits
	r.Feed(q)
	unchanged()
}

// TestP2Independent: Readers don't share their buffers.
func TestP2Independent(t *testing.T) {
	r, s := frame.NewReader(), frame.NewReader()
	feed(t, r, []byte{0, 0, 0})
	feed(t, s, encoded(1, []byte("a")))
	broken(t, r, api.ErrArg)
	next(t, s, 1, []byte("a"))
	short(t, frame.NewReader(), 0)
}

func TestP6_2NilReader(t *testing.T) {
	var r *frame.Reader
	if r.Feed([]byte{1, 0, 0}) != 0 || r.Feed(nil) != 0 || r.Waiting() != 0 || r.Broken() != api.ErrNone {
		t.Error("a nil Reader has something")
	}
	if f, e := r.Next(); e != api.ErrNone || !same(f, frame.Frame{}) {
		t.Error(f, e)
	}
	for f := range r.Frames() {
		t.Error(f)
	}
}
