package bits_test

import (
	"bytes"
	"math"
	"slices"
	"testing"

	"skerry/api"
	"skerry/bits"
)

// room is bytes with others in front of and behind them, which no call may read or change.
type room struct {
	all  []byte
	b    []byte
	kept []byte
}

func newRoom(b []byte, mark byte) *room {
	if b == nil {
		return &room{}
	}
	all := bytes.Repeat([]byte{mark}, len(b)+16)
	copy(all[8:], b)
	return &room{all: all, b: all[8 : 8+len(b)], kept: bytes.Clone(all)}
}

func (r *room) check(t *testing.T, call string) {
	t.Helper()
	if !bytes.Equal(r.all, r.kept) {
		t.Fatalf("%s changed what it was handed: %v, was %v", call, r.all, r.kept)
	}
}

// checkApart writes over the argument, and then over the answer, the room behind it too: neither may show in the other.
func (r *room) checkApart(t *testing.T, call string, out []byte) {
	t.Helper()
	was := bytes.Clone(out)
	for i := range r.all {
		r.all[i] ^= 0xFF
	}
	if !bytes.Equal(out, was) {
		t.Fatalf("%s: the answer changed with the argument", call)
	}
	copy(r.all, r.kept)
	turnOver(out)
	r.check(t, call+", its answer written over,")
}

// turnOver writes over a list and the room behind it.
func turnOver(b []byte) {
	b = b[:cap(b)]
	for i := range b {
		b[i] ^= 0xFF
	}
}

// far are numbers that no sample has bits for.
var far = []int{math.MinInt, math.MinInt + 1, math.MinInt + 7, math.MinInt + 8, math.MinInt32, -65536, -64, -9, -8, -7, 65535, 65536, math.MaxInt32, math.MaxUint32 + 1, math.MaxInt/8 + 1, math.MaxInt - 8, math.MaxInt - 7, math.MaxInt - 1, math.MaxInt}

// numbers are all bits of b, those just outside of it, and far ones.
func numbers(b []byte) []int {
	list := slices.Clone(far)
	for i := -3; i <= 8*len(b)+3; i++ {
		list = append(list, i)
	}
	return list
}

// samples are all strings of one byte, all of at most three bytes out of some, nil and longer ones.
func samples() [][]byte {
	list := [][]byte{nil, {}}
	for c := range 256 {
		list = append(list, []byte{byte(c)})
	}
	some := []byte{0, 1, 0x5A, 127, 128, 255}
	for _, x := range some {
		for _, y := range some {
			list = append(list, []byte{x, y})
			for _, z := range some {
				list = append(list, []byte{x, y, z})
			}
		}
	}
	return append(list, bytes.Repeat([]byte{255}, 6), make([]byte, 6), []byte{255, 255, 255, 254, 255, 255}, []byte{1, 2, 4, 8, 16, 32})
}

// model is bits one by one, of which nothing but the chapter's opening sentence is known.
func model(b []byte) []int {
	list := make([]int, 0, 8*len(b))
	for _, x := range b {
		for range 8 {
			list = append(list, int(x)%2)
			x /= 2
		}
	}
	return list
}

// inverse makes bytes of bits, the last of them filled up by 0.
func inverse(list []int) []byte {
	var out []byte
	for part := range slices.Chunk(list, 8) {
		x, weight := 0, 1
		for _, bit := range part {
			x += bit * weight
			weight *= 2
		}
		out = append(out, byte(x))
	}
	return out
}

func wantGet(list []int, i int) (bool, api.Errno) {
	if i < 0 || i >= len(list) {
		return false, api.ErrRange
	}
	return list[i] == 1, api.OK
}

func wantSet(list []int, i int, on bool) ([]byte, api.Errno) {
	if i < 0 || i >= len(list) {
		return nil, api.ErrRange
	}
	list = slices.Clone(list)
	list[i] = 0
	if on {
		list[i] = 1
	}
	return inverse(list), api.OK
}

func wantCount(list []int, from, to int) (int, api.Errno) {
	if from < 0 || to < from || to > len(list) {
		return 0, api.ErrRange
	}
	n := 0
	for _, bit := range list[from:to] {
		n += bit
	}
	return n, api.OK
}

func wantFirst(list []int, from, to int) (int, api.Errno) {
	if from < 0 || to < from || to > len(list) {
		return 0, api.ErrRange
	}
	i := slices.Index(list[from:to], 0)
	if i < 0 {
		return 0, api.ErrNone
	}
	return from + i, api.OK
}

func wantMake(n int, on []int) ([]byte, api.Errno) {
	if n < 0 || n > 65536 {
		return nil, api.ErrArg
	}
	list := make([]int, n)
	for _, i := range on {
		if i < 0 || i >= n {
			return nil, api.ErrRange
		}
		list[i] = 1
	}
	return inverse(list), api.OK
}

// TestGet: P4.1, by answers that are written out.
func TestGet(t *testing.T) {
	b := []byte{0x81, 0x02, 0x80}
	on := []int{0, 7, 9, 23}
	for i := range 24 {
		if got, e := bits.Get(b, i); got != slices.Contains(on, i) || e != api.OK {
			t.Error("Get:", i, got, e)
		}
	}
	for _, i := range []int{-1, -8, -24, 24, 25, 31, 32, math.MinInt, math.MinInt + 1, math.MaxInt, math.MaxInt - 1} {
		if got, e := bits.Get(b, i); got || e != api.ErrRange {
			t.Error("Get:", i, got, e)
		}
	}
	for _, b := range [][]byte{nil, {}} {
		for _, i := range []int{-1, 0, 1, 7, 8} {
			if got, e := bits.Get(b, i); got || e != api.ErrRange {
				t.Error("Get of nothing:", i, got, e)
			}
		}
	}
}

// TestSet: P4.1, by bytes that are written out.
func TestSet(t *testing.T) {
	for _, r := range []struct {
		b    []byte
		i    int
		on   bool
		want []byte
		e    api.Errno
	}{
		{[]byte{0, 0}, 9, true, []byte{0, 2}, api.OK},
		{[]byte{0, 0}, 0, true, []byte{1, 0}, api.OK},
		{[]byte{0, 0}, 7, true, []byte{128, 0}, api.OK},
		{[]byte{0, 0}, 8, true, []byte{0, 1}, api.OK},
		{[]byte{0, 0}, 15, true, []byte{0, 128}, api.OK},
		{[]byte{255, 255}, 0, false, []byte{254, 255}, api.OK},
		{[]byte{255, 255}, 7, false, []byte{127, 255}, api.OK},
		{[]byte{255, 255}, 8, false, []byte{255, 254}, api.OK},
		{[]byte{255, 255}, 15, false, []byte{255, 127}, api.OK},
		{[]byte{0, 0}, 9, false, []byte{0, 0}, api.OK},
		{[]byte{255, 255}, 9, true, []byte{255, 255}, api.OK},
		{[]byte{0x5A, 0xA5}, 3, true, []byte{0x5A, 0xA5}, api.OK},
		{[]byte{0x5A, 0xA5}, 2, false, []byte{0x5A, 0xA5}, api.OK},
		{[]byte{0, 0}, 16, true, nil, api.ErrRange},
		{[]byte{255, 255}, 16, false, nil, api.ErrRange},
		{[]byte{0, 0}, -1, true, nil, api.ErrRange},
		{[]byte{0, 0}, math.MinInt, true, nil, api.ErrRange},
		{[]byte{0, 0}, math.MaxInt, false, nil, api.ErrRange},
		{[]byte{}, 0, true, nil, api.ErrRange},
		{nil, 0, false, nil, api.ErrRange},
		{nil, -1, false, nil, api.ErrRange},
	} {
		if out, e := bits.Set(r.b, r.i, r.on); !bytes.Equal(out, r.want) || e != r.e {
			t.Error("Set:", r, out, e)
		}
	}
}

// TestCount: P4.2, by numbers that are written out.
func TestCount(t *testing.T) {
	b := []byte{0xF1, 0xFF, 0x00, 0x81}
	for _, r := range []struct {
		from, to, want int
		e              api.Errno
	}{
		{0, 32, 15, api.OK}, {0, 8, 5, api.OK}, {8, 16, 8, api.OK}, {16, 24, 0, api.OK}, {24, 32, 2, api.OK},
		{0, 1, 1, api.OK}, {1, 4, 0, api.OK}, {1, 5, 1, api.OK}, {3, 7, 3, api.OK}, {7, 9, 2, api.OK}, {6, 18, 10, api.OK}, {5, 31, 12, api.OK}, {31, 32, 1, api.OK},
		{0, 0, 0, api.OK}, {7, 7, 0, api.OK}, {8, 8, 0, api.OK}, {12, 12, 0, api.OK}, {32, 32, 0, api.OK},
		{-1, 8, 0, api.ErrRange}, {-1, -1, 0, api.ErrRange}, {5, 4, 0, api.ErrRange}, {32, 31, 0, api.ErrRange},
		{0, 33, 0, api.ErrRange}, {33, 33, 0, api.ErrRange}, {33, 32, 0, api.ErrRange},
		{math.MinInt, 32, 0, api.ErrRange}, {0, math.MaxInt, 0, api.ErrRange}, {math.MaxInt, math.MinInt, 0, api.ErrRange},
		{math.MinInt, math.MaxInt, 0, api.ErrRange}, {math.MaxInt, math.MaxInt, 0, api.ErrRange}, {math.MinInt, math.MinInt, 0, api.ErrRange}, {0, math.MinInt, 0, api.ErrRange},
	} {
		if n, e := bits.Count(b, r.from, r.to); n != r.want || e != r.e {
			t.Error("Count:", r, n, e)
		}
	}
	for _, b := range [][]byte{nil, {}} {
		if n, e := bits.Count(b, 0, 0); n != 0 || e != api.OK {
			t.Error("Count of nothing:", n, e)
		}
		if n, e := bits.Count(b, 0, 1); n != 0 || e != api.ErrRange {
			t.Error("Count of nothing:", n, e)
		}
	}
}

// TestFirst: P4.2, by bits that are written out.
func TestFirst(t *testing.T) {
	full := []byte{255, 255, 255, 255}
	for _, r := range []struct {
		b              []byte
		from, to, want int
		e              api.Errno
	}{
		{[]byte{0, 2}, 9, 16, 10, api.OK}, {[]byte{0, 2}, 9, 10, 0, api.ErrNone}, {[]byte{0, 2}, 9, 9, 0, api.ErrNone},
		{[]byte{0, 2}, 0, 16, 0, api.OK}, {[]byte{0, 2}, 15, 16, 15, api.OK}, {[]byte{0, 2}, 8, 9, 8, api.OK}, {[]byte{0, 2}, 7, 9, 7, api.OK},
		{full, 0, 32, 0, api.ErrNone}, {full, 3, 29, 0, api.ErrNone}, {full, 9, 15, 0, api.ErrNone}, {full, 31, 32, 0, api.ErrNone},
		{full, 0, 0, 0, api.ErrNone}, {full, 32, 32, 0, api.ErrNone},
		{make([]byte, 4), 0, 0, 0, api.ErrNone}, {make([]byte, 4), 13, 13, 0, api.ErrNone}, {make([]byte, 4), 32, 32, 0, api.ErrNone},
		{make([]byte, 4), 31, 32, 31, api.OK}, {make([]byte, 4), 0, 1, 0, api.OK},
		{nil, 0, 0, 0, api.ErrNone}, {[]byte{}, 0, 0, 0, api.ErrNone},
		{full, -1, 32, 0, api.ErrRange}, {full, 0, 33, 0, api.ErrRange}, {full, 33, 33, 0, api.ErrRange}, {full, 9, 8, 0, api.ErrRange}, {full, -1, -1, 0, api.ErrRange},
		{full, 0, math.MaxInt, 0, api.ErrRange}, {full, math.MinInt, 32, 0, api.ErrRange}, {full, math.MaxInt, math.MaxInt, 0, api.ErrRange},
		{full, math.MinInt, math.MinInt, 0, api.ErrRange}, {full, math.MaxInt, math.MinInt, 0, api.ErrRange},
		{nil, 0, 1, 0, api.ErrRange}, {nil, 1, 1, 0, api.ErrRange}, {nil, -1, 0, 0, api.ErrRange},
	} {
		if n, e := bits.First(r.b, r.from, r.to); n != r.want || e != r.e {
			t.Error("First:", r, n, e)
		}
	}
}

// TestFirstOfOne: P4.2, one bit is 0: it is found just in the parts that hold it, ahead of from and behind to it is not.
func TestFirstOfOne(t *testing.T) {
	for zero := range 40 {
		list := slices.Repeat([]int{1}, 40)
		list[zero] = 0
		b := inverse(list)
		for from := range 41 {
			for to := from; to <= 40; to++ {
				want, e := zero, api.OK
				if zero < from || zero >= to {
					want, e = 0, api.ErrNone
				}
				if got, g := bits.First(b, from, to); got != want || g != e {
					t.Fatalf("First from %d to %d, only %d is 0: %d, %d", from, to, zero, got, g)
				}
			}
		}
	}
}

// TestMake: P4.3, by bytes that are written out.
func TestMake(t *testing.T) {
	for _, r := range []struct {
		n    int
		on   []int
		want []byte
		e    api.Errno
	}{
		{10, []int{0, 9}, []byte{1, 2}, api.OK}, {10, []int{9, 0}, []byte{1, 2}, api.OK}, {10, nil, []byte{0, 0}, api.OK}, {10, []int{}, []byte{0, 0}, api.OK},
		{0, nil, nil, api.OK}, {0, []int{}, nil, api.OK},
		{1, nil, []byte{0}, api.OK}, {1, []int{0}, []byte{1}, api.OK}, {7, []int{6}, []byte{64}, api.OK}, {8, []int{7}, []byte{128}, api.OK}, {9, []int{8, 7}, []byte{128, 1}, api.OK},
		{16, []int{15}, []byte{0, 128}, api.OK}, {17, []int{16}, []byte{0, 0, 1}, api.OK},
		{10, []int{3, 3, 9, 3, 9}, []byte{8, 2}, api.OK}, {8, []int{0, 1, 2, 3, 4, 5, 6, 7}, []byte{255}, api.OK},
		{10, []int{10}, nil, api.ErrRange}, {10, []int{15}, nil, api.ErrRange}, {10, []int{16}, nil, api.ErrRange}, {10, []int{-1}, nil, api.ErrRange},
		{10, []int{1, 2, -1}, nil, api.ErrRange}, {10, []int{10, 1}, nil, api.ErrRange}, {10, []int{1, 10, 2}, nil, api.ErrRange},
		{10, []int{math.MinInt}, nil, api.ErrRange}, {10, []int{math.MaxInt}, nil, api.ErrRange},
		{0, []int{0}, nil, api.ErrRange}, {0, []int{-1}, nil, api.ErrRange}, {65536, []int{65536}, nil, api.ErrRange}, {65536, []int{-1}, nil, api.ErrRange},
		{-1, nil, nil, api.ErrArg}, {65537, nil, nil, api.ErrArg}, {65544, nil, nil, api.ErrArg}, {math.MinInt, nil, nil, api.ErrArg}, {math.MaxInt, nil, nil, api.ErrArg},
		{-1, []int{0}, nil, api.ErrArg}, {-1, []int{-1}, nil, api.ErrArg}, {65537, []int{65537}, nil, api.ErrArg}, {65537, []int{-1}, nil, api.ErrArg},
		{math.MinInt, []int{math.MaxInt}, nil, api.ErrArg}, {math.MaxInt, []int{math.MinInt}, nil, api.ErrArg},
	} {
		if out, e := bits.Make(r.n, r.on); !bytes.Equal(out, r.want) || e != r.e {
			t.Error("Make:", r, out, e)
		}
	}
}

// TestMakeGreat: P4.3, the greatest numbers of bits, with some of them, all of them and none.
func TestMakeGreat(t *testing.T) {
	for _, n := range []int{65528, 65529, 65535, 65536} {
		all := make([]int, n)
		for i := range all {
			all[i] = n - 1 - i
		}
		for _, on := range [][]int{nil, {0, n - 1}, {7, 8, 65520, 65527}, all} {
			want, _ := wantMake(n, on)
			if out, e := bits.Make(n, on); !bytes.Equal(out, want) || len(out) != (n+7)/8 || e != api.OK {
				t.Errorf("Make(%d) with %d on: %d bytes, %d", n, len(on), len(out), e)
			}
		}
	}
}

// TestAllGetsAndSets: P4.1 over all samples, with R1, R3 and R4.
func TestAllGetsAndSets(t *testing.T) {
	for _, b := range samples() {
		list := model(b)
		for _, mark := range []byte{0, 0xA5, 0xFF} {
			r := newRoom(b, mark)
			for _, i := range numbers(b) {
				got, e := bits.Get(r.b, i)
				if w, f := wantGet(list, i); got != w || e != f {
					t.Fatalf("Get(%v, %d): %v %d, not %v %d", b, i, got, e, w, f)
				}
				r.check(t, "Get")
				for _, on := range []bool{false, true} {
					out, e := bits.Set(r.b, i, on)
					if w, f := wantSet(list, i, on); !bytes.Equal(out, w) || e != f {
						t.Fatalf("Set(%v, %d, %v): %v %d, not %v %d", b, i, on, out, e, w, f)
					}
					r.check(t, "Set")
					r.checkApart(t, "Set", out)
				}
			}
		}
	}
}

// TestAllParts: P4.2 over all samples and all parts of them, with R1, R3 and R4.
func TestAllParts(t *testing.T) {
	for _, b := range samples() {
		list := model(b)
		for _, mark := range []byte{0, 0xFF} {
			r := newRoom(b, mark)
			for _, from := range numbers(b) {
				for _, to := range numbers(b) {
					n, e := bits.Count(r.b, from, to)
					if w, f := wantCount(list, from, to); n != w || e != f {
						t.Fatalf("Count(%v, %d, %d): %d %d, not %d %d", b, from, to, n, e, w, f)
					}
					n, e = bits.First(r.b, from, to)
					if w, f := wantFirst(list, from, to); n != w || e != f {
						t.Fatalf("First(%v, %d, %d): %d %d, not %d %d", b, from, to, n, e, w, f)
					}
				}
			}
			r.check(t, "Count or First")
		}
	}
}

// TestLongParts: P4.2, a great bitmap, of which the bits around the edges of a part are turned.
func TestLongParts(t *testing.T) {
	const n = 1 << 16
	for _, r := range [][2]int{{0, n}, {1, n - 1}, {7, n - 9}, {8, n - 8}, {9, n - 7}, {1000, 64001}} {
		from, to := r[0], r[1]
		b := bytes.Repeat([]byte{255}, n/8)
		for _, i := range []int{from - 1, to} {
			if out, e := bits.Set(b, i, false); e == api.OK {
				b = out
			}
		}
		if got, e := bits.Count(b, from, to); got != to-from || e != api.OK {
			t.Error("Count:", r, got, e)
		}
		if got, e := bits.First(b, from, to); got != 0 || e != api.ErrNone {
			t.Error("First:", r, got, e)
		}
		b, _ = bits.Set(b, to-1, false)
		if got, e := bits.Count(b, from, to); got != to-from-1 || e != api.OK {
			t.Error("Count:", r, got, e)
		}
		if got, e := bits.First(b, from, to); got != to-1 || e != api.OK {
			t.Error("First:", r, got, e)
		}
	}
}

// TestAllMakes: P4.3, all numbers of bits up to some, each with lists right and wrong; R1, R3 and R4, the room around the lists too.
func TestAllMakes(t *testing.T) {
	for n := -2; n <= 33; n++ {
		for _, last := range numbers(make([]byte, 4)) {
			for _, some := range [][]int{{}, {last}, {0, last}, {last, 0}, {last, last}, {n - 1, last, n / 2}} {
				all := append(append([]int{-7, 3}, some...), 1, -7, math.MaxInt)
				kept := slices.Clone(all)
				on := all[2 : 2+len(some)]
				out, e := bits.Make(n, on)
				if w, f := wantMake(n, some); !bytes.Equal(out, w) || e != f {
					t.Fatalf("Make(%d, %v): %v %d, not %v %d", n, some, out, e, w, f)
				}
				if !slices.Equal(all, kept) {
					t.Fatalf("Make(%d, %v) changed what it was handed", n, some)
				}
				was := bytes.Clone(out)
				clear(all)
				if !bytes.Equal(out, was) {
					t.Fatalf("Make(%d, %v): the answer changed with the argument", n, some)
				}
			}
		}
	}
}

// TestRoomIsNotRead: R4, bytes and numbers in the room behind the length are none of the list.
func TestRoomIsNotRead(t *testing.T) {
	all := []byte{255, 0, 0xC3, 0xC3}
	b := all[:1]
	if on, e := bits.Get(b, 16); on || e != api.ErrRange {
		t.Error("Get:", on, e)
	}
	if out, e := bits.Set(b, 8, true); len(out) != 0 || e != api.ErrRange {
		t.Error("Set:", out, e)
	}
	if n, e := bits.Count(b, 0, 9); n != 0 || e != api.ErrRange {
		t.Error("Count:", n, e)
	}
	if n, e := bits.First(b, 0, 9); n != 0 || e != api.ErrRange {
		t.Error("First:", n, e)
	}
	if n, e := bits.First(b, 0, 8); n != 0 || e != api.ErrNone {
		t.Error("First:", n, e)
	}
	out, e := bits.Set(b, 0, false)
	if e != api.OK || !bytes.Equal(out, []byte{254}) || bytes.IndexByte(out[:cap(out)], 0xC3) >= 0 {
		t.Error("Set carries the room behind on:", out[:cap(out)], e)
	}
	if out, e := bits.Make(8, []int{0, 99, -1}[:1]); !bytes.Equal(out, []byte{1}) || e != api.OK {
		t.Error("Make:", out, e)
	}
}

// TestAnswersApart: R4 and R5, of answers of one question the later ones stay as they are when the earlier ones are written over, the room behind them too.
func TestAnswersApart(t *testing.T) {
	b := []byte{1, 2, 3}
	for _, ask := range []struct {
		name string
		call func() ([]byte, api.Errno)
		want []byte
	}{
		{"Set to 1", func() ([]byte, api.Errno) { return bits.Set(b, 4, true) }, []byte{17, 2, 3}},
		{"Set to what it was", func() ([]byte, api.Errno) { return bits.Set(b, 0, true) }, []byte{1, 2, 3}},
		{"Set to 0", func() ([]byte, api.Errno) { return bits.Set(b, 17, false) }, []byte{1, 2, 1}},
		{"Make", func() ([]byte, api.Errno) { return bits.Make(20, []int{19, 0}) }, []byte{1, 0, 8}},
		{"Make of none", func() ([]byte, api.Errno) { return bits.Make(20, nil) }, []byte{0, 0, 0}},
	} {
		first, e := ask.call()
		second, f := ask.call()
		turnOver(first)
		third, g := ask.call()
		if e != api.OK || f != api.OK || g != api.OK || !bytes.Equal(second, ask.want) || !bytes.Equal(third, ask.want) {
			t.Error(ask.name, second, third, e, f, g)
		}
		turnOver(third)
		if !bytes.Equal(second, ask.want) || !bytes.Equal(b, []byte{1, 2, 3}) {
			t.Error(ask.name, "shares memory:", second, b)
		}
	}
}

// TestErrorsLeaveNothing: R5 and R6, calls that are refused change no later answer.
func TestErrorsLeaveNothing(t *testing.T) {
	b := []byte{0xF0, 0x0F}
	for range 3 {
		bits.Get(b, 16)
		bits.Set(b, -1, true)
		bits.Count(b, 3, 2)
		bits.First(b, 0, 17)
		bits.First(b, 4, 12)
		bits.Make(9, []int{1, 2, 9})
		bits.Make(-1, []int{1})
		if n, e := bits.Count(b, 0, 16); n != 8 || e != api.OK {
			t.Error("Count:", n, e)
		}
		if n, e := bits.First(b, 4, 16); n != 12 || e != api.OK {
			t.Error("First:", n, e)
		}
		if out, e := bits.Make(9, []int{8}); !bytes.Equal(out, []byte{0, 1}) || e != api.OK {
			t.Error("Make:", out, e)
		}
	}
}

// TestTogether: P4.1 to P4.3, what Make makes is what Set makes bit by bit, and Count and First tell it.
func TestTogether(t *testing.T) {
	const n = 50
	var on []int
	b, _ := bits.Make(n, nil)
	for i := range n {
		at := i * 7 % n
		if first, e := bits.First(b, at, at+1); first != at || e != api.OK {
			t.Fatal("First:", at, first, e)
		}
		on = append(on, at)
		b, _ = bits.Set(b, at, true)
		made, e := bits.Make(n, on)
		if e != api.OK || !bytes.Equal(made, b) {
			t.Fatal("Make:", on, made, b, e)
		}
		if got, _ := bits.Get(b, at); !got {
			t.Fatal("Get:", at)
		}
		if count, e := bits.Count(b, 0, n); count != i+1 || e != api.OK {
			t.Fatal("Count:", i, count, e)
		}
	}
	if first, e := bits.First(b, 0, n); first != 0 || e != api.ErrNone {
		t.Error("First:", first, e)
	}
	if first, e := bits.First(b, 0, 8*len(b)); first != n || e != api.OK {
		t.Error("First:", first, e)
	}
}
