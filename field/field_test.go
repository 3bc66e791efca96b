package field_test

import (
	"bytes"
	"math"
	"strings"
	"testing"

	"skerry/api"
	"skerry/field"
)

// room is bytes with others in front of and behind them, which no call may read or change.
type room struct {
	all  []byte
	b    []byte
	kept []byte
}

const mark = 0xA5

func newRoom(b []byte) *room {
	if b == nil {
		return &room{}
	}
	all := bytes.Repeat([]byte{mark}, len(b)+16)
	copy(all[8:], b)
	return &room{all: all, b: all[8 : 8+len(b)], kept: bytes.Clone(all)}
}

func (r *room) check(t *testing.T, call string) {
	t.Helper()
	if !bytes.Equal(r.all, r.kept) {
		t.Errorf("%s changed what it was handed: %v, was %v", call, r.all, r.kept)
	}
}

// checkApart writes over the answer, the room behind it too, and then over the argument: neither may show in the other.
func (r *room) checkApart(t *testing.T, call string, out []byte) {
	t.Helper()
	was := bytes.Clone(out)
	for i := range r.all {
		r.all[i] ^= 0xFF
	}
	if !bytes.Equal(out, was) {
		t.Errorf("%s: the answer changed with the argument", call)
	}
	copy(r.all, r.kept)
	out = out[:cap(out)]
	for i := range out {
		out[i] ^= 0xFF
	}
	r.check(t, call+", its answer written over,")
}

// edges are the places, lengths and numbers that a call may be handed wrongly.
var edges = []int{math.MinInt, math.MinInt + 1, math.MinInt32, -256, -2, -1, 0, 1, 2, 3, 4, 5, 6, 7, 8, 9, 255, 256, 65535, 65536, math.MaxInt32, math.MaxUint32, math.MaxUint32 + 1, math.MaxInt - 1, math.MaxInt}

// samples are all byte strings of at most four bytes out of three, nil and some longer ones.
func samples() [][]byte {
	list := [][]byte{nil, {}}
	last := [][]byte{{}}
	for range 4 {
		var next [][]byte
		for _, b := range last {
			for _, c := range []byte{0, 1, 255} {
				next = append(next, append(bytes.Clone(b), c))
			}
		}
		list = append(list, next...)
		last = next
	}
	return append(list, []byte{9, 8, 7, 6, 5, 4}, make([]byte, 7), []byte("abc\x00\x00d\x00"))
}

func fitsWidth(width int) bool { return width == 1 || width == 2 || width == 4 }

// inside tells by single places whether n bytes stand from at on; a place behind the end is none, for no bytes too.
func inside(b []byte, at, n int) bool {
	if at < 0 || at > len(b) || n > len(b) {
		return false
	}
	return at+n <= len(b)
}

// wantPart is the errors that a part's place and length make.
func wantPart(b []byte, at, n int) api.Errno {
	if n < 0 {
		return api.ErrArg
	}
	if !inside(b, at, n) {
		return api.ErrRange
	}
	return api.OK
}

func wantGet(b []byte, at, width int) (int, api.Errno) {
	if !fitsWidth(width) {
		return 0, api.ErrArg
	}
	if !inside(b, at, width) {
		return 0, api.ErrRange
	}
	v, weight := 0, 1
	for i := range width {
		v += int(b[at+i]) * weight
		weight *= 256
	}
	return v, api.OK
}

func wantPut(b []byte, at, width, v int) ([]byte, api.Errno) {
	if _, e := wantGet(b, at, width); e != api.OK {
		return nil, e
	}
	greatest := map[int]int{1: 255, 2: 65535, 4: 4294967295}
	if v < 0 || v > greatest[width] {
		return nil, api.ErrValue
	}
	out := bytes.Clone(b)
	for i := range width {
		out[at+i] = byte(v % 256)
		v /= 256
	}
	return out, api.OK
}

func wantText(b []byte, at, n int) (string, api.Errno) {
	if e := wantPart(b, at, n); e != api.OK {
		return "", e
	}
	s, rest, found := strings.Cut(string(b[at:at+n]), "\x00")
	if found && strings.Trim(rest, "\x00") != "" {
		return "", api.ErrForm
	}
	return s, api.OK
}

func wantPutText(b []byte, at, n int, s string) ([]byte, api.Errno) {
	if e := wantPart(b, at, n); e != api.OK {
		return nil, e
	}
	if len(s) > n {
		return nil, api.ErrLarge
	}
	if strings.Contains(s, "\x00") {
		return nil, api.ErrValue
	}
	text := s + strings.Repeat("\x00", n-len(s))
	return []byte(string(b[:at]) + text + string(b[at+n:])), api.OK
}

func wantZero(b []byte, at, n int) (bool, api.Errno) {
	if e := wantPart(b, at, n); e != api.OK {
		return false, e
	}
	return bytes.Count(b[at:at+n], []byte{0}) == n, api.OK
}

// TestGet: P1.1, by numbers that are written out.
func TestGet(t *testing.T) {
	b := []byte{1, 2, 3, 4, 255, 255, 255, 255}
	for _, r := range []struct {
		at, width, want int
		e               api.Errno
	}{
		{0, 1, 1, api.OK}, {3, 1, 4, api.OK}, {7, 1, 255, api.OK},
		{1, 2, 770, api.OK}, {0, 2, 513, api.OK}, {6, 2, 65535, api.OK},
		{0, 4, 67305985, api.OK}, {2, 4, 4294902787, api.OK}, {4, 4, 4294967295, api.OK},
		{8, 1, 0, api.ErrRange}, {7, 2, 0, api.ErrRange}, {5, 4, 0, api.ErrRange}, {9, 1, 0, api.ErrRange},
		{-1, 1, 0, api.ErrRange}, {math.MinInt, 4, 0, api.ErrRange}, {math.MaxInt, 4, 0, api.ErrRange},
		{math.MaxInt - 3, 4, 0, api.ErrRange},
		{0, 0, 0, api.ErrArg}, {0, 3, 0, api.ErrArg}, {0, 5, 0, api.ErrArg}, {0, 8, 0, api.ErrArg}, {0, -1, 0, api.ErrArg},
		{0, math.MinInt, 0, api.ErrArg}, {0, math.MaxInt, 0, api.ErrArg},
		{-1, 3, 0, api.ErrArg}, {9, 0, 0, api.ErrArg},
	} {
		if v, e := field.Get(b, r.at, r.width); v != r.want || e != r.e {
			t.Error("Get:", r, v, e)
		}
	}
	for _, width := range []int{1, 2, 4} {
		if v, e := field.Get(nil, 0, width); v != 0 || e != api.ErrRange {
			t.Error("Get of nil:", width, v, e)
		}
	}
}

// TestPut: P1.2, by bytes that are written out.
func TestPut(t *testing.T) {
	b := []byte{1, 2, 3, 4, 5}
	for _, r := range []struct {
		at, width, v int
		want         []byte
		e            api.Errno
	}{
		{0, 4, 258, []byte{2, 1, 0, 0, 5}, api.OK},
		{1, 4, 4294967295, []byte{1, 255, 255, 255, 255}, api.OK},
		{1, 4, 67305985, []byte{1, 1, 2, 3, 4}, api.OK},
		{0, 4, 4294967296, nil, api.ErrValue},
		{2, 2, 65535, []byte{1, 2, 255, 255, 5}, api.OK},
		{3, 2, 513, []byte{1, 2, 3, 1, 2}, api.OK},
		{2, 2, 65536, nil, api.ErrValue},
		{4, 1, 255, []byte{1, 2, 3, 4, 255}, api.OK},
		{0, 1, 0, []byte{0, 2, 3, 4, 5}, api.OK},
		{0, 1, 256, nil, api.ErrValue},
		{0, 1, -1, nil, api.ErrValue}, {0, 4, -1, nil, api.ErrValue},
		{0, 4, math.MinInt, nil, api.ErrValue}, {0, 4, math.MaxInt, nil, api.ErrValue},
		{4, 2, 1, nil, api.ErrRange}, {2, 4, 1, nil, api.ErrRange}, {5, 1, 1, nil, api.ErrRange}, {-1, 1, 1, nil, api.ErrRange},
		{5, 1, 256, nil, api.ErrRange}, {-1, 2, -1, nil, api.ErrRange}, {math.MaxInt, 4, -1, nil, api.ErrRange},
		{0, 3, 1, nil, api.ErrArg}, {0, 0, 0, nil, api.ErrArg}, {-1, 3, -1, nil, api.ErrArg}, {math.MinInt, 8, math.MinInt, nil, api.ErrArg},
	} {
		if out, e := field.Put(b, r.at, r.width, r.v); !bytes.Equal(out, r.want) || e != r.e {
			t.Error("Put:", r, out, e)
		}
	}
	if out, e := field.Put(nil, 0, 1, 0); len(out) != 0 || e != api.ErrRange {
		t.Error("Put into nil:", out, e)
	}
}

// TestText: P1.3, by texts that are written out.
func TestText(t *testing.T) {
	b := []byte("ab\x00\x00c\xff\x00")
	for _, r := range []struct {
		at, n int
		want  string
		e     api.Errno
	}{
		{0, 2, "ab", api.OK}, {0, 1, "a", api.OK}, {0, 3, "ab", api.OK}, {0, 4, "ab", api.OK},
		{1, 3, "b", api.OK}, {2, 2, "", api.OK}, {4, 2, "c\xff", api.OK}, {4, 3, "c\xff", api.OK}, {6, 1, "", api.OK},
		{0, 0, "", api.OK}, {3, 0, "", api.OK}, {7, 0, "", api.OK},
		{0, 5, "", api.ErrForm}, {2, 3, "", api.ErrForm}, {3, 2, "", api.ErrForm}, {0, 7, "", api.ErrForm},
		{0, 8, "", api.ErrRange}, {7, 1, "", api.ErrRange}, {8, 0, "", api.ErrRange}, {-1, 0, "", api.ErrRange}, {-1, 1, "", api.ErrRange},
		{math.MaxInt, math.MaxInt, "", api.ErrRange}, {math.MinInt, 1, "", api.ErrRange}, {1, math.MaxInt, "", api.ErrRange},
		{0, -1, "", api.ErrArg}, {-1, -1, "", api.ErrArg}, {8, -1, "", api.ErrArg}, {0, math.MinInt, "", api.ErrArg},
	} {
		if s, e := field.Text(b, r.at, r.n); s != r.want || e != r.e {
			t.Errorf("Text: %v: %q %d", r, s, e)
		}
	}
	if s, e := field.Text(nil, 0, 0); s != "" || e != api.OK {
		t.Error("Text of nil:", s, e)
	}
}

// TestPutText: P1.4, by bytes that are written out.
func TestPutText(t *testing.T) {
	b := []byte("99999")
	for _, r := range []struct {
		at, n int
		s     string
		want  string
		e     api.Errno
	}{
		{1, 3, "ab", "9ab\x009", api.OK}, {1, 3, "abc", "9abc9", api.OK}, {1, 3, "", "9\x00\x00\x009", api.OK},
		{0, 5, "\xff\x01", "\xff\x01\x00\x00\x00", api.OK}, {0, 5, "abcde", "abcde", api.OK}, {4, 1, "z", "9999z", api.OK},
		{2, 0, "", "99999", api.OK}, {5, 0, "", "99999", api.OK}, {0, 0, "", "99999", api.OK},
		{1, 3, "a\x00", "", api.ErrValue}, {1, 3, "\x00", "", api.ErrValue}, {1, 3, "ab\x00", "", api.ErrValue},
		{1, 3, "abcd", "", api.ErrLarge}, {1, 0, "a", "", api.ErrLarge}, {1, 3, "abc\x00", "", api.ErrLarge}, {5, 0, "\x00", "", api.ErrLarge},
		{3, 3, "a", "", api.ErrRange}, {6, 0, "", "", api.ErrRange}, {-1, 1, "", "", api.ErrRange}, {5, 1, "\x00\x00", "", api.ErrRange},
		{math.MaxInt, 1, "a", "", api.ErrRange}, {math.MinInt, 0, "a", "", api.ErrRange}, {2, math.MaxInt, "a", "", api.ErrRange},
		{0, -1, "", "", api.ErrArg}, {-1, -1, "\x00", "", api.ErrArg}, {9, math.MinInt, "a", "", api.ErrArg},
	} {
		if out, e := field.PutText(b, r.at, r.n, r.s); string(out) != r.want || e != r.e {
			t.Errorf("PutText: %v: %q %d", r, out, e)
		}
	}
	if out, e := field.PutText(nil, 0, 0, ""); len(out) != 0 || e != api.OK {
		t.Error("PutText into nil:", out, e)
	}
}

// TestZero: P1.5, by answers that are written out.
func TestZero(t *testing.T) {
	b := []byte{0, 0, 1, 0, 128}
	for _, r := range []struct {
		at, n int
		want  bool
		e     api.Errno
	}{
		{0, 1, true, api.OK}, {0, 2, true, api.OK}, {0, 3, false, api.OK}, {2, 1, false, api.OK}, {2, 2, false, api.OK},
		{3, 1, true, api.OK}, {3, 2, false, api.OK}, {4, 1, false, api.OK},
		{0, 0, true, api.OK}, {2, 0, true, api.OK}, {5, 0, true, api.OK},
		{5, 1, false, api.ErrRange}, {6, 0, false, api.ErrRange}, {-1, 1, false, api.ErrRange}, {0, 6, false, api.ErrRange},
		{math.MaxInt, math.MaxInt, false, api.ErrRange}, {math.MinInt, 0, false, api.ErrRange}, {1, math.MaxInt, false, api.ErrRange},
		{0, -1, false, api.ErrArg}, {-1, -1, false, api.ErrArg}, {6, math.MinInt, false, api.ErrArg},
	} {
		if z, e := field.Zero(b, r.at, r.n); z != r.want || e != r.e {
			t.Error("Zero:", r, z, e)
		}
	}
	if z, e := field.Zero(nil, 0, 0); !z || e != api.OK {
		t.Error("Zero of nil:", z, e)
	}
}

// TestAllGets: P1.1, P1.3 and P1.5 over all samples and edges, with R1, R3 and R4.
func TestAllGets(t *testing.T) {
	for _, b := range samples() {
		r := newRoom(b)
		for _, at := range edges {
			for _, n := range edges {
				v, e := field.Get(r.b, at, n)
				if w, f := wantGet(b, at, n); v != w || e != f {
					t.Fatalf("Get(%v, %d, %d): %d %d, not %d %d", b, at, n, v, e, w, f)
				}
				s, e := field.Text(r.b, at, n)
				if w, f := wantText(b, at, n); s != w || e != f {
					t.Fatalf("Text(%v, %d, %d): %q %d, not %q %d", b, at, n, s, e, w, f)
				}
				z, e := field.Zero(r.b, at, n)
				if w, f := wantZero(b, at, n); z != w || e != f {
					t.Fatalf("Zero(%v, %d, %d): %v %d, not %v %d", b, at, n, z, e, w, f)
				}
			}
		}
		r.check(t, "Get, Text or Zero")
	}
}

// TestAllPuts: P1.2 over all samples and edges, with R1, R3 and R4.
func TestAllPuts(t *testing.T) {
	for _, b := range samples() {
		r := newRoom(b)
		for _, at := range edges {
			for _, width := range edges {
				for _, v := range edges {
					out, e := field.Put(r.b, at, width, v)
					if w, f := wantPut(b, at, width, v); !bytes.Equal(out, w) || e != f {
						t.Fatalf("Put(%v, %d, %d, %d): %v %d, not %v %d", b, at, width, v, out, e, w, f)
					}
					if e == api.OK {
						r.checkApart(t, "Put", out)
					}
				}
			}
		}
		r.check(t, "Put")
	}
}

// TestAllPutTexts: P1.4 over all samples and edges, with R1, R3 and R4.
func TestAllPutTexts(t *testing.T) {
	texts := []string{"", "a", "ab", "abc", "abcd", "\xff\xfe", "\x00", "a\x00", "\x00a", "ab\x00d", strings.Repeat("x", 300)}
	for _, b := range samples() {
		r := newRoom(b)
		for _, at := range edges {
			for _, n := range edges {
				for _, s := range texts {
					out, e := field.PutText(r.b, at, n, s)
					if w, f := wantPutText(b, at, n, s); !bytes.Equal(out, w) || e != f {
						t.Fatalf("PutText(%v, %d, %d, %q): %v %d, not %v %d", b, at, n, s, out, e, w, f)
					}
					if e == api.OK {
						r.checkApart(t, "PutText", out)
					}
				}
			}
		}
		r.check(t, "PutText")
	}
}

// TestTextApart: R4, a text stays what it was when the bytes it was read from are written over.
func TestTextApart(t *testing.T) {
	b := []byte("abcdef")
	s, e := field.Text(b, 1, 4)
	copy(b, "ZZZZZZ")
	if s != "bcde" || e != api.OK {
		t.Errorf("Text: %q %d", s, e)
	}
}

// TestRoomIsNotRead: R4, bytes in the room behind the length are none of the byte string.
func TestRoomIsNotRead(t *testing.T) {
	all := []byte{1, 0, 0, 7}
	b := all[:2]
	if v, e := field.Get(b, 1, 2); v != 0 || e != api.ErrRange {
		t.Error("Get:", v, e)
	}
	if out, e := field.Put(b, 0, 4, 1); len(out) != 0 || e != api.ErrRange {
		t.Error("Put:", out, e)
	}
	if s, e := field.Text(b, 0, 4); s != "" || e != api.ErrRange {
		t.Error("Text:", s, e)
	}
	if out, e := field.PutText(b, 0, 3, "a"); len(out) != 0 || e != api.ErrRange {
		t.Error("PutText:", out, e)
	}
	if z, e := field.Zero(b, 1, 2); z || e != api.ErrRange {
		t.Error("Zero:", z, e)
	}
	out, e := field.Put(b, 0, 1, 9)
	if e != api.OK || !bytes.Equal(out, []byte{9, 0}) || bytes.IndexByte(out[:cap(out)], 7) >= 0 {
		t.Error("Put carries the room behind on:", out[:cap(out)], e)
	}
}

// TestRoundTrip: P1.1 with P1.2, and P1.3 with P1.4: what was put is got, bytes around it are as they were.
func TestRoundTrip(t *testing.T) {
	b := []byte{11, 12, 13, 14, 15, 16, 17}
	for _, width := range []int{1, 2, 4} {
		for bit := range 8 * width {
			for _, v := range []int{1 << bit, 1<<bit - 1, 1<<(8*width) - 1 - 1<<bit} {
				out, e := field.Put(b, 2, width, v)
				if e != api.OK || !bytes.Equal(out[:2], b[:2]) || !bytes.Equal(out[2+width:], b[2+width:]) {
					t.Fatal("Put:", width, v, out, e)
				}
				if got, e := field.Get(out, 2, width); got != v || e != api.OK {
					t.Fatal("Get:", width, v, got, e)
				}
			}
		}
	}
	for c := 1; c < 256; c++ {
		s := string([]byte{byte(c), 1, byte(c)})
		out, e := field.PutText(b, 1, 5, s)
		if e != api.OK {
			t.Fatal("PutText:", c, e)
		}
		if got, e := field.Text(out, 1, 5); got != s || e != api.OK {
			t.Fatalf("Text: %d %q %d", c, got, e)
		}
	}
}

// TestAnswersStay: R5, neither other calls nor what became of earlier answers change an answer.
func TestAnswersStay(t *testing.T) {
	b := []byte{1, 2, 3, 4}
	first, _ := field.Put(b, 1, 2, 777)
	clear(first)
	field.PutText(b, 0, 4, "wxyz")
	if again, e := field.Put(b, 1, 2, 777); e != api.OK || !bytes.Equal(again, []byte{1, 9, 3, 4}) {
		t.Error("Put:", again, e)
	}
}
