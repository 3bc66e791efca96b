package crc_test

import (
	"bytes"
	"hash/crc32"
	"math"
	"testing"

	"skerry/api"
	"skerry/crc"
)

// room is bytes with others in front of and behind them, which no call may read or change.
type room struct {
	all  []byte
	b    []byte
	kept []byte
}

func newRoom(b []byte) *room {
	if b == nil {
		return &room{}
	}
	all := bytes.Repeat([]byte{0xA5}, len(b)+16)
	copy(all[8:], b)
	return &room{all: all, b: all[8 : 8+len(b)], kept: bytes.Clone(all)}
}

func (r *room) check(t *testing.T, call string) {
	t.Helper()
	if !bytes.Equal(r.all, r.kept) {
		t.Errorf("%s changed what it was handed", call)
	}
}

// checkApart writes over the argument, and then over the answer, the room behind it too: neither may show in the other.
func (r *room) checkApart(t *testing.T, call string, out []byte) {
	t.Helper()
	was := bytes.Clone(out)
	for i := range r.all {
		r.all[i] ^= 0xFF
	}
	if !bytes.Equal(out, was) {
		t.Errorf("%s: the answer changed with the argument", call)
	}
	copy(r.all, r.kept)
	out = out[:cap(out)]
	for i := range out {
		out[i] ^= 0xFF
	}
	r.check(t, call+", its answer written over,")
}

// edges are the places and sums that a call may be handed, right and wrong ones.
var edges = []int{math.MinInt, math.MinInt + 1, math.MinInt32, -65536, -8, -2, -1, 0, 1, 2, 3, 4, 5, 6, 7, 8, 9, 10, 16, 255, 65535, 65536, 65540, 65541, 65542, math.MaxInt32, math.MaxInt32 + 1, math.MaxUint32 - 1, math.MaxUint32, math.MaxUint32 + 1, 2 * math.MaxUint32, math.MaxInt - 6, math.MaxInt - 1, math.MaxInt}

// mixed answers n bytes of which hardly any two neighbours are alike.
func mixed(n int) []byte {
	b := make([]byte, n)
	x := uint32(n)
	for i := range b {
		x = x*1664525 + 1013904223
		b[i] = byte(x >> 24)
	}
	return b
}

// payloads are bytes of many lengths, with the edges of one byte and of two.
func payloads() [][]byte {
	list := [][]byte{nil, {}, {0}, {255}, []byte("a"), []byte("ab"), []byte("123456789"), make([]byte, 40), bytes.Repeat([]byte{255}, 40)}
	for _, n := range []int{3, 4, 5, 6, 7, 8, 15, 16, 17, 254, 255, 256, 257, 511, 512} {
		list = append(list, mixed(n))
	}
	return list
}

// wantSum goes bit by bit, as the chapter's words do.
func wantSum(b []byte) int {
	c := 0xFFFFFFFF
	for _, x := range b {
		c ^= int(x)
		for range 8 {
			odd := c%2 == 1
			c /= 2
			if odd {
				c ^= 0xEDB88320
			}
		}
	}
	return c ^ 0xFFFFFFFF
}

func wantFrame(b []byte) []byte {
	out := append([]byte{byte(len(b) % 256), byte(len(b) / 256)}, b...)
	s := wantSum(out)
	return append(out, byte(s), byte(s>>8), byte(s>>16), byte(s>>24))
}

// wantUnframe tells a frame by making one of the payload that would stand there.
func wantUnframe(b []byte, at int) ([]byte, int, api.Errno) {
	if at < 0 || at > len(b) {
		return nil, 0, api.ErrRange
	}
	rest := b[at:]
	if len(rest) < 2 {
		return nil, 0, api.ErrShort
	}
	n := int(rest[0]) + 256*int(rest[1])
	if len(rest) < 2+n+4 {
		return nil, 0, api.ErrShort
	}
	payload := rest[2 : 2+n]
	if !bytes.Equal(rest[:2+n+4], wantFrame(payload)) {
		return nil, 0, api.ErrCheck
	}
	return payload, at + 2 + n + 4, api.OK
}

func checkUnframe(t *testing.T, name string, b []byte, at int) {
	t.Helper()
	p, next, e := crc.Unframe(b, at)
	w, m, f := wantUnframe(b, at)
	if !bytes.Equal(p, w) || next != m || e != f {
		t.Fatalf("Unframe of %s at %d: %d bytes, %d, %d; not %d bytes, %d, %d", name, at, len(p), next, e, len(w), m, f)
	}
}

func mustFrame(t *testing.T, b []byte) []byte {
	t.Helper()
	f, e := crc.Frame(b)
	if e != api.OK {
		t.Fatalf("Frame of %d bytes: %d", len(b), e)
	}
	return f
}

// TestSum: P2.1, by sums that are written out.
func TestSum(t *testing.T) {
	for _, r := range []struct {
		b    []byte
		want int
	}{
		{nil, 0}, {[]byte{}, 0},
		{[]byte("a"), 0xE8B7BE43}, {[]byte("abc"), 0x352441C2}, {[]byte("123456789"), 0xCBF43926},
		{[]byte{0}, 0xD202EF8D}, {[]byte{0, 0, 0, 0}, 0x2144DF1C}, {[]byte{255}, 0xFF000000},
		{[]byte{255, 255, 255, 255}, 0xFFFFFFFF}, {[]byte{0x9D, 0x0A, 0xD9, 0x6D}, 0},
		{[]byte("The quick brown fox jumps over the lazy dog"), 0x414FA339},
	} {
		if n := crc.Sum(r.b); n != r.want {
			t.Errorf("Sum of %q: %X, not %X", r.b, n, r.want)
		}
	}
}

// TestAllSums: P2.1 over all strings of at most two bytes and many longer ones.
func TestAllSums(t *testing.T) {
	list := payloads()
	for x := range 256 {
		list = append(list, []byte{byte(x)})
		for y := range 256 {
			list = append(list, []byte{byte(x), byte(y)})
		}
	}
	for _, n := range []int{4096, 65535, 65536, 200000} {
		list = append(list, mixed(n))
	}
	for _, b := range list {
		n := crc.Sum(b)
		if n != wantSum(b) || n != int(crc32.ChecksumIEEE(b)) {
			t.Fatalf("Sum of %d bytes %.8v: %X, not %X", len(b), b, n, wantSum(b))
		}
	}
}

// TestAdd: P2.1, by sums that are written out: the edges of what is a sum, and those next to them.
func TestAdd(t *testing.T) {
	for _, r := range []struct {
		sum  int
		b    []byte
		want int
		e    api.Errno
	}{
		{0, nil, 0, api.OK}, {0, []byte("a"), 0xE8B7BE43, api.OK}, {0, []byte("123456789"), 0xCBF43926, api.OK},
		{1, nil, 1, api.OK}, {0xFFFFFFFE, nil, 0xFFFFFFFE, api.OK}, {0xFFFFFFFF, nil, 0xFFFFFFFF, api.OK},
		{0xFFFFFFFF, []byte{}, 0xFFFFFFFF, api.OK},
		{0xFFFFFFFF, []byte{0}, 0xFFFFFFFF, api.OK}, {0xFFFFFFFF, []byte{1}, 0x88F8CF69, api.OK},
		{0xE8B7BE43, []byte("bc"), 0x352441C2, api.OK},
		{-1, nil, 0, api.ErrValue}, {-1, []byte("a"), 0, api.ErrValue}, {math.MinInt, []byte("a"), 0, api.ErrValue},
		{math.MinInt, nil, 0, api.ErrValue}, {-0xFFFFFFFF, []byte("a"), 0, api.ErrValue},
		{0x100000000, nil, 0, api.ErrValue}, {0x100000000, []byte("a"), 0, api.ErrValue}, {0x1E8B7BE43, []byte("bc"), 0, api.ErrValue},
		{math.MaxInt, nil, 0, api.ErrValue}, {math.MaxInt, []byte("a"), 0, api.ErrValue},
	} {
		if n, e := crc.Add(r.sum, r.b); n != r.want || e != r.e {
			t.Errorf("Add(%X, %q): %X %d, not %X %d", r.sum, r.b, n, e, r.want, r.e)
		}
	}
}

// TestAddFollows: P2.1, the sum goes on from every cut, also where the part ahead has the sum 0 or FFFFFFFF.
func TestAddFollows(t *testing.T) {
	list := payloads()
	list = append(list, []byte{255, 255, 255, 255, 1, 2, 3}, []byte{0x9D, 0x0A, 0xD9, 0x6D, 1, 2, 3})
	for _, b := range list {
		for cut := range len(b) + 1 {
			n, e := crc.Add(crc.Sum(b[:cut]), b[cut:])
			if n != wantSum(b) || e != api.OK {
				t.Fatalf("Add behind %d of %d bytes: %X %d, not %X", cut, len(b), n, e, wantSum(b))
			}
		}
	}
}

// TestAddEdges: P2.1 over all edges of sums, with R3.
func TestAddEdges(t *testing.T) {
	for _, sum := range edges {
		for _, b := range payloads() {
			want, f := 0, api.ErrValue
			if sum >= 0 && sum <= 0xFFFFFFFF {
				want, f = int(crc32.Update(uint32(sum), crc32.IEEETable, b)), api.OK
			}
			if n, e := crc.Add(sum, b); n != want || e != f {
				t.Fatalf("Add(%d, %d bytes): %X %d, not %X %d", sum, len(b), n, e, want, f)
			}
		}
	}
}

// TestFrame: P2.2, by bytes that are written out.
func TestFrame(t *testing.T) {
	for _, r := range []struct {
		b    []byte
		want []byte
	}{
		{nil, []byte{0, 0, 0xFF, 0x12, 0xD9, 0x41}},
		{[]byte{}, []byte{0, 0, 0xFF, 0x12, 0xD9, 0x41}},
		{[]byte("ab"), []byte{2, 0, 'a', 'b', 0x05, 0x4D, 0x17, 0x54}},
	} {
		if f, e := crc.Frame(r.b); !bytes.Equal(f, r.want) || e != api.OK {
			t.Errorf("Frame of %q: %X %d, not %X", r.b, f, e, r.want)
		}
	}
	for _, b := range append(payloads(), mixed(65534), mixed(65535), make([]byte, 65535)) {
		f, e := crc.Frame(b)
		if !bytes.Equal(f, wantFrame(b)) || e != api.OK {
			t.Errorf("Frame of %d bytes: %d bytes, %d", len(b), len(f), e)
		}
	}
	for _, n := range []int{65536, 65537, 131072} {
		if f, e := crc.Frame(mixed(n)); len(f) != 0 || e != api.ErrLarge {
			t.Errorf("Frame of %d bytes: %d bytes, %d", n, len(f), e)
		}
	}
}

// TestUnframe: P2.3, by frames that are written out, with several errors at one time.
func TestUnframe(t *testing.T) {
	ab := []byte{2, 0, 'a', 'b', 0x05, 0x4D, 0x17, 0x54}
	none := []byte{0, 0, 0xFF, 0x12, 0xD9, 0x41}
	both := append(append([]byte{7}, ab...), none...)
	for _, r := range []struct {
		b    []byte
		at   int
		want string
		next int
		e    api.Errno
	}{
		{ab, 0, "ab", 8, api.OK}, {none, 0, "", 6, api.OK}, {both, 1, "ab", 9, api.OK}, {both, 9, "", 15, api.OK},
		{append(bytes.Clone(ab), 0), 0, "ab", 8, api.OK},
		{ab, 8, "", 0, api.ErrShort}, {ab, 7, "", 0, api.ErrShort}, {ab[:7], 0, "", 0, api.ErrShort}, {none[:5], 0, "", 0, api.ErrShort},
		{ab[:2], 0, "", 0, api.ErrShort}, {ab[:1], 0, "", 0, api.ErrShort}, {ab[:1], 1, "", 0, api.ErrShort},
		{nil, 0, "", 0, api.ErrShort}, {[]byte{}, 0, "", 0, api.ErrShort}, {both, 15, "", 0, api.ErrShort},
		{[]byte{2, 0, 'x', 'b', 0x05, 0x4D, 0x17}, 0, "", 0, api.ErrShort},
		{[]byte{2, 0, 'b', 'b', 0x05, 0x4D, 0x17, 0x54}, 0, "", 0, api.ErrCheck},
		{[]byte{2, 0, 'a', 'b', 0x05, 0x4D, 0x17, 0x55}, 0, "", 0, api.ErrCheck},
		{[]byte{2, 0, 'a', 'b', 0x54, 0x17, 0x4D, 0x05}, 0, "", 0, api.ErrCheck},
		{[]byte{1, 0, 'a', 'b', 0x05, 0x4D, 0x17, 0x54}, 0, "", 0, api.ErrCheck},
		{[]byte{3, 0, 'a', 'b', 0x05, 0x4D, 0x17, 0x54}, 0, "", 0, api.ErrShort},
		{[]byte{2, 1, 'a', 'b', 0x05, 0x4D, 0x17, 0x54}, 0, "", 0, api.ErrShort},
		{[]byte{0, 0, 0, 0, 0, 0}, 0, "", 0, api.ErrCheck},
		{ab, 9, "", 0, api.ErrRange}, {ab, -1, "", 0, api.ErrRange}, {ab, math.MinInt, "", 0, api.ErrRange}, {ab, math.MaxInt, "", 0, api.ErrRange},
		{nil, 1, "", 0, api.ErrRange}, {nil, -1, "", 0, api.ErrRange}, {nil, math.MaxInt, "", 0, api.ErrRange}, {ab[:1], -8, "", 0, api.ErrRange},
	} {
		if p, next, e := crc.Unframe(r.b, r.at); string(p) != r.want || next != r.next || e != r.e {
			t.Errorf("Unframe(%X, %d): %q %d %d, not %q %d %d", r.b, r.at, p, next, e, r.want, r.next, r.e)
		}
	}
}

// TestUnframeEverywhere: P2.3 at every place of bytes that hold frames among others, and at all edges, with R1 and R3.
func TestUnframeEverywhere(t *testing.T) {
	b := []byte{9, 0, 0}
	for _, p := range payloads() {
		b = append(b, wantFrame(p)...)
	}
	b = append(b, 1, 0, 5)
	for at := -3; at <= len(b)+3; at++ {
		checkUnframe(t, "frames", b, at)
	}
	for _, p := range append(payloads(), mixed(65535)) {
		for _, at := range edges {
			checkUnframe(t, "a frame", wantFrame(p), at)
			checkUnframe(t, "a payload", p, at)
		}
	}
}

// TestUnframeCut: P2.3, a frame of which bytes are missing at its end is short, however many.
func TestUnframeCut(t *testing.T) {
	for _, p := range payloads() {
		f := wantFrame(p)
		for n := range f {
			if got, next, e := crc.Unframe(f[:n], 0); len(got) != 0 || next != 0 || e != api.ErrShort {
				t.Fatalf("Unframe of %d of %d bytes: %v %d %d", n, len(f), got, next, e)
			}
		}
	}
	f := wantFrame(mixed(65535))
	if got, next, e := crc.Unframe(f[:len(f)-1], 0); len(got) != 0 || next != 0 || e != api.ErrShort {
		t.Fatalf("Unframe of the greatest frame, cut: %v %d %d", got, next, e)
	}
}

// TestUnframeTurned: P2.3, no frame is read of which one bit is turned, in its length, its payload or its sum.
func TestUnframeTurned(t *testing.T) {
	for _, p := range payloads() {
		f := wantFrame(p)
		for i := range f {
			for bit := range 8 {
				f[i] ^= 1 << bit
				checkUnframe(t, "a turned frame", f, 0)
				if _, _, e := crc.Unframe(f, 0); i >= 2 && e != api.ErrCheck || e == api.OK {
					t.Fatalf("Unframe of %d bytes with bit %d of byte %d turned: %d", len(f), bit, i, e)
				}
				f[i] ^= 1 << bit
			}
		}
	}
}

// TestRoundTrip: P2.2 with P2.3, frames that stand one behind the other are read one behind the other.
func TestRoundTrip(t *testing.T) {
	list := append(payloads(), mixed(65535))
	var b []byte
	for _, p := range list {
		b = append(b, mustFrame(t, p)...)
	}
	at := 0
	for _, p := range list {
		got, next, e := crc.Unframe(b, at)
		if !bytes.Equal(got, p) || next != at+len(p)+6 || e != api.OK {
			t.Fatalf("Unframe at %d: %d bytes, %d, %d", at, len(got), next, e)
		}
		at = next
	}
	if got, next, e := crc.Unframe(b, at); at != len(b) || len(got) != 0 || next != 0 || e != api.ErrShort {
		t.Error("Unframe at the end:", at, got, next, e)
	}
}

// TestHandedIn: R4, what is handed in stays, also with an error, and no answer shares memory with it.
func TestHandedIn(t *testing.T) {
	for _, p := range append(payloads(), mixed(65535), mixed(65536)) {
		r := newRoom(p)
		crc.Sum(r.b)
		crc.Add(7, r.b)
		crc.Add(-7, r.b)
		crc.Unframe(r.b, 0)
		crc.Unframe(r.b, -1)
		r.check(t, "Sum, Add or Unframe")
		if f, e := crc.Frame(r.b); e == api.OK {
			r.checkApart(t, "Frame", f)
		}
		r.check(t, "Frame")
	}
	for _, p := range payloads() {
		r := newRoom(wantFrame(p))
		got, _, e := crc.Unframe(r.b, 0)
		if e != api.OK {
			t.Fatal("Unframe:", e)
		}
		r.check(t, "Unframe")
		r.checkApart(t, "Unframe", got)
	}
}

// TestRoomIsNotRead: R4, a frame that goes on in the room behind the length is cut off, and that room is none of what is summed or framed.
func TestRoomIsNotRead(t *testing.T) {
	all := append(wantFrame([]byte("ab")), wantFrame([]byte("cd"))...)
	for n := range 8 {
		if p, next, e := crc.Unframe(all[:n], 0); len(p) != 0 || next != 0 || e != api.ErrShort {
			t.Errorf("Unframe of %d bytes with room: %v %d %d", n, p, next, e)
		}
	}
	if p, next, e := crc.Unframe(all[:8], 8); len(p) != 0 || next != 0 || e != api.ErrShort {
		t.Error("Unframe at the end, with room:", p, next, e)
	}
	if p, next, e := crc.Unframe(all[:8], 9); len(p) != 0 || next != 0 || e != api.ErrRange {
		t.Error("Unframe behind the end, with room:", p, next, e)
	}
	if n := crc.Sum(all[:0]); n != 0 {
		t.Error("Sum with room:", n)
	}
	if n, e := crc.Add(5, all[:0]); n != 5 || e != api.OK {
		t.Error("Add with room:", n, e)
	}
	big := mixed(65537)
	if f, e := crc.Frame(big[:65535]); e != api.OK || !bytes.Equal(f, wantFrame(big[:65535])) {
		t.Error("Frame with room:", len(f), e)
	}
}

// TestAnswersStay: R5, neither other calls nor what became of earlier answers change an answer.
func TestAnswersStay(t *testing.T) {
	first := mustFrame(t, []byte("ab"))
	clear(first[:cap(first)])
	again := mustFrame(t, []byte("ab"))
	if !bytes.Equal(again, wantFrame([]byte("ab"))) {
		t.Errorf("Frame: %X", again)
	}
	one, _, _ := crc.Unframe(again, 0)
	clear(one[:cap(one)])
	crc.Add(99, []byte("other"))
	if two, next, e := crc.Unframe(again, 0); string(two) != "ab" || next != 8 || e != api.OK {
		t.Errorf("Unframe: %q %d %d", two, next, e)
	}
	if n := crc.Sum([]byte("a")); n != 0xE8B7BE43 {
		t.Errorf("Sum: %X", n)
	}
}
