package device_test

import (
	"bytes"
	"math"
	"slices"
	"strings"
	"testing"

	"skerry/api"
	"skerry/device"
)

// far are numbers that no device has anything for.
var far = []int{math.MinInt, math.MinInt + 1, math.MinInt/2 - 1, math.MinInt32 - 1, math.MinInt32, -4097, -4096, -64, -2, 1 << 21, math.MaxInt32, math.MaxUint32 + 1, math.MaxUint32 + 2, math.MaxInt / 64, math.MaxInt/64 + 1, math.MaxInt/2 + 1, math.MaxInt - 63, math.MaxInt - 1, math.MaxInt}

var blockSizes = []int{64, 128, 256, 512, 1024, 2048, 4096}

// around are far numbers, and the ones given with those just beside them.
func around(some ...int) []int {
	list := slices.Clone(far)
	for _, n := range some {
		list = append(list, n-1, n, n+1)
	}
	slices.Sort(list)
	return slices.Compact(list)
}

// marked answers a block of bytes that no other mark below 60000 has.
func marked(n, mark int) []byte {
	b := make([]byte, n)
	for i := range b {
		b[i] = byte(mark + 31*i + i*i*(mark/251))
	}
	copy(b[n-2:], []byte{byte(mark / 250), byte(mark % 250)})
	return b
}

func full(x byte) []byte {
	return bytes.Repeat([]byte{x}, 64)
}

// made answers a device that must be there.
func made(t *testing.T, block, blocks int) *device.Device {
	t.Helper()
	d, e := device.New(block, blocks)
	if d == nil || e != api.OK {
		t.Fatalf("New(%d, %d): %v, %v", block, blocks, d, e)
	}
	return d
}

// want holds what a call answered against what it should.
func want(t *testing.T, call string, got, wanted api.Errno) {
	t.Helper()
	if got != wanted {
		t.Errorf("%s: %d, should be %d", call, got, wanted)
	}
}

func wantRead(t *testing.T, d *device.Device, b int, wanted []byte) {
	t.Helper()
	if got, e := d.Read(b); e != api.OK || !bytes.Equal(got, wanted) {
		t.Errorf("Read(%d): %v, %v, should be %v", b, got, e, wanted)
	}
}

func wantWaiting(t *testing.T, d *device.Device, wanted ...int) {
	t.Helper()
	if got := d.Waiting(); !slices.Equal(got, wanted) {
		t.Errorf("Waiting: %v, should be %v", got, wanted)
	}
}

func wantNew(block, blocks int) api.Errno {
	if !slices.Contains(blockSizes, block) || blocks < 1 || blocks > 4096 {
		return api.ErrArg
	}
	if blocks > 1048576/block {
		return api.ErrLarge
	}
	return api.OK
}

// TestNew: P7.1, by answers that are written out, several errors at one time too.
func TestNew(t *testing.T) {
	for _, c := range []struct {
		block, blocks int
		e             api.Errno
	}{
		{64, 1, api.OK}, {64, 4096, api.OK}, {64, 0, api.ErrArg}, {64, -1, api.ErrArg}, {64, 4097, api.ErrArg},
		{256, 4096, api.OK}, {256, 4097, api.ErrArg}, {512, 2048, api.OK}, {512, 2049, api.ErrLarge}, {512, 4096, api.ErrLarge}, {512, 4097, api.ErrArg},
		{4096, 256, api.OK}, {4096, 257, api.ErrLarge}, {4096, 1, api.OK}, {8192, 1, api.ErrArg}, {8192, 4096, api.ErrArg}, {32, 1, api.ErrArg},
		{0, 1, api.ErrArg}, {1, 1, api.ErrArg}, {65, 1, api.ErrArg}, {96, 1, api.ErrArg}, {-64, 1, api.ErrArg}, {-64, -1, api.ErrArg},
		{math.MinInt, math.MinInt, api.ErrArg}, {math.MaxInt, math.MaxInt, api.ErrArg}, {64, math.MaxInt, api.ErrArg}, {math.MaxInt, 1, api.ErrArg}, {64, 1 << 58, api.ErrArg},
	} {
		if d, e := device.New(c.block, c.blocks); e != c.e || (d != nil) != (e == api.OK) {
			t.Errorf("New(%d, %d): %v, should be %v", c.block, c.blocks, e, c.e)
		}
	}
}

// TestAllNews: P7.1 and R1, all sizes of blocks with those beside them, and all edges of how many there are.
func TestAllNews(t *testing.T) {
	counts := around(0, 1, 2, 7, 8, 256, 512, 1024, 2048, 4096)
	for _, block := range append(around(0, 1, 32, 64, 96, 128, 192, 256, 512, 1024, 2048, 3072, 4096), 8192, 65536) {
		for _, blocks := range counts {
			d, e := device.New(block, blocks)
			if e != wantNew(block, blocks) || (d != nil) != (e == api.OK) {
				t.Fatalf("New(%d, %d): %v, should be %v", block, blocks, e, wantNew(block, blocks))
			}
			if d != nil && (d.Block() != block || d.Blocks() != blocks) {
				t.Fatalf("New(%d, %d) has %d, %d", block, blocks, d.Block(), d.Blocks())
			}
		}
	}
	for block := range 4200 {
		if _, e := device.New(block, 1); e != wantNew(block, 1) {
			t.Fatalf("New(%d, 1): %v", block, e)
		}
	}
}

// TestNewIsEmpty: P7.1, all bytes of a new device are 0, nothing waits, nothing was done, and no fuse burns.
func TestNewIsEmpty(t *testing.T) {
	for _, block := range blockSizes {
		for _, blocks := range []int{1, 2, min(4096, 1048576/block)} {
			d := made(t, block, blocks)
			for b := range blocks {
				wantRead(t, d, b, make([]byte, block))
			}
			wantWaiting(t, d)
			if d.Dead() || d.Writes() != 0 {
				t.Error("a new device:", d.Dead(), d.Writes())
			}
			for i := range 500 {
				want(t, "Write", d.Write(blocks-1, marked(block, i)), api.OK)
			}
			want(t, "Flush", d.Flush(), api.OK)
			wantRead(t, d, blocks-1, marked(block, 499))
		}
	}
}

// TestWrite: P7.2 and P7.4, the chapter's first example, and writes of several blocks.
func TestWrite(t *testing.T) {
	for _, c := range []struct {
		flush bool
		picks []int
		read  byte
	}{{false, []int{1}, 1}, {false, nil, 0}, {false, []int{2}, 2}, {true, []int{0}, 2}, {true, []int{1}, 2}} {
		d := made(t, 64, 4)
		d.Write(1, full(1))
		d.Write(1, full(2))
		wantRead(t, d, 1, full(2))
		wantRead(t, d, 0, full(0))
		wantWaiting(t, d, 1, 2)
		if c.flush {
			want(t, "Flush", d.Flush(), api.OK)
			wantRead(t, d, 1, full(2))
			wantWaiting(t, d)
		}
		want(t, "Crash", d.Crash(c.picks), api.OK)
		wantRead(t, d, 1, full(c.read))
		wantWaiting(t, d)
	}
	d := made(t, 64, 4)
	for i, b := range []int{3, 0, 3, 2, 0, 3} {
		want(t, "Write", d.Write(b, full(byte(i+1))), api.OK)
	}
	wantWaiting(t, d, 0, 2, 2, 1, 3, 3)
	for b, x := range []byte{5, 0, 4, 6} {
		wantRead(t, d, b, full(x))
	}
	want(t, "Flush", d.Flush(), api.OK)
	want(t, "Write", d.Write(0, full(7)), api.OK)
	wantWaiting(t, d, 0, 1)
	want(t, "Crash", d.Crash([]int{0, 3, 3}), api.OK)
	for b, x := range []byte{5, 0, 4, 6} {
		wantRead(t, d, b, full(x))
	}
}

// TestNumbers: P7.2, P7.5 and R1, the first block, the last one, those beside them and far ones.
func TestNumbers(t *testing.T) {
	for _, blocks := range []int{1, 2, 4, 4096} {
		for _, b := range around(0, 1, blocks-1, blocks) {
			d := made(t, 64, blocks)
			wanted := api.ErrRange
			if b >= 0 && b < blocks {
				wanted = api.OK
			}
			got, e := d.Read(b)
			want(t, "Read", e, wanted)
			if len(got) != 0 && wanted != api.OK {
				t.Errorf("Read(%d) beside an error: %v", b, got)
			}
			want(t, "Write", d.Write(b, full(1)), wanted)
			if wanted == api.OK {
				wantWaiting(t, d, b, 1)
				wantRead(t, d, b, full(1))
			} else {
				wantWaiting(t, d)
			}
			want(t, "Load", d.Load(b, full(2)), wanted)
			wantWaiting(t, d)
			if wanted == api.OK {
				wantRead(t, d, b, full(2))
			}
		}
	}
}

// TestLengths: P7.2 and P7.5, data of each length up to two blocks, and nil.
func TestLengths(t *testing.T) {
	for _, block := range []int{64, 128, 4096} {
		d := made(t, block, 2)
		lengths := []int{0, 1, 2, 63, 64, 65, 127, 128, 129, 255, 256, 4095, 4096, 4097, 8192}
		for _, n := range lengths {
			wanted := api.ErrArg
			if n == block {
				wanted = api.OK
			}
			want(t, "Write", d.Write(1, make([]byte, n)), wanted)
			want(t, "Load", d.Load(1, make([]byte, n)), wanted)
			want(t, "Write behind", d.Write(2, make([]byte, n)), api.ErrRange)
			want(t, "Load ahead", d.Load(-1, make([]byte, n)), api.ErrRange)
		}
		want(t, "Write", d.Write(1, nil), api.ErrArg)
		want(t, "Load", d.Load(1, nil), api.ErrArg)
		want(t, "Write behind", d.Write(2, nil), api.ErrRange)
		want(t, "Load behind", d.Load(2, nil), api.ErrRange)
		if d.Writes() != 1 {
			t.Error("Writes:", d.Writes())
		}
	}
	d := made(t, 64, 1)
	for n := range 200 {
		if n != 64 {
			want(t, "Write", d.Write(0, make([]byte, n)), api.ErrArg)
			want(t, "Load", d.Load(0, make([]byte, n)), api.ErrArg)
		}
	}
}

// wantDead holds a dead device's calls against the chapter: which are refused, which error comes first, and that none of them counts.
func wantDead(t *testing.T, d *device.Device) {
	t.Helper()
	done, waits := d.Writes(), d.Waiting()
	if !d.Dead() {
		t.Error("it is not dead")
	}
	for _, b := range []int{0, -1, d.Blocks(), math.MaxInt, math.MinInt} {
		got, e := d.Read(b)
		want(t, "Read, dead", e, api.ErrDead)
		if len(got) != 0 {
			t.Error("Read, dead:", got)
		}
	}
	want(t, "Write, dead", d.Write(0, full(9)), api.ErrDead)
	want(t, "Write, dead", d.Write(0, full(9)[1:]), api.ErrArg)
	want(t, "Write, dead", d.Write(0, nil), api.ErrArg)
	want(t, "Write, dead", d.Write(-1, full(9)), api.ErrRange)
	want(t, "Write, dead", d.Write(d.Blocks(), nil), api.ErrRange)
	want(t, "Flush, dead", d.Flush(), api.ErrDead)
	want(t, "Fuse, dead", d.Fuse(1), api.ErrDead)
	want(t, "Fuse, dead", d.Fuse(0), api.ErrDead)
	want(t, "Fuse, dead", d.Fuse(-1), api.ErrArg)
	want(t, "Fuse, dead", d.Fuse(math.MinInt), api.ErrArg)
	want(t, "Fuse, dead", d.Fuse(math.MaxInt), api.ErrDead)
	want(t, "Load, dead", d.Load(-1, nil), api.ErrRange)
	want(t, "Load, dead", d.Load(0, nil), api.ErrArg)
	if !d.Dead() || d.Writes() != done {
		t.Error("a dead device:", d.Dead(), d.Writes(), done)
	}
	wantWaiting(t, d, waits...)
}

// TestFuse: P7.2, P7.3 and P7.4, fuses of all small numbers, that end at a write and at a flush, and one in place of another.
func TestFuse(t *testing.T) {
	for n := range 6 {
		for last := range 2 {
			for _, ahead := range []int{-1, 0, 1, 3, math.MaxInt} {
				d := made(t, 64, 4)
				if ahead >= 0 {
					want(t, "Fuse", d.Fuse(ahead), api.OK)
				}
				want(t, "Fuse", d.Fuse(n), api.OK)
				want(t, "Fuse", d.Fuse(-1), api.ErrArg)
				want(t, "Fuse", d.Fuse(math.MinInt), api.ErrArg)
				for i := range n {
					want(t, "Write behind", d.Write(4, full(1)), api.ErrRange)
					want(t, "a short Write", d.Write(3, full(1)[1:]), api.ErrArg)
					want(t, "Load", d.Load(2, full(byte(i))), api.OK)
					wantRead(t, d, 2, full(byte(i)))
					if i%2 == last {
						want(t, "Flush", d.Flush(), api.OK)
						wantWaiting(t, d)
					} else {
						want(t, "Write", d.Write(1, full(byte(i+1))), api.OK)
						wantWaiting(t, d, 1, 1)
					}
				}
				if d.Dead() || d.Writes() != n {
					t.Errorf("Fuse(%d), burnt: %v, %d", n, d.Dead(), d.Writes())
				}
				// Nothing has asked since the fuse was burnt, so all can be read.
				if _, e := d.Read(0); e != api.OK {
					t.Error("Read:", e)
				}
				waits := d.Waiting()
				if last == 0 {
					want(t, "the last Write", d.Write(0, full(7)), api.ErrDead)
				} else {
					want(t, "the last Flush", d.Flush(), api.ErrDead)
				}
				wantWaiting(t, d, waits...)
				wantDead(t, d)
				want(t, "Crash", d.Crash(nil), api.OK)
				if d.Dead() {
					t.Error("dead behind a crash")
				}
				wantRead(t, d, 0, full(0))
				for range 10 {
					want(t, "Write", d.Write(0, full(8)), api.OK)
					want(t, "Flush", d.Flush(), api.OK)
				}
				if d.Writes() != n+20 {
					t.Error("Writes:", d.Writes())
				}
			}
		}
	}
}

// TestFuseExample: P7.2 and P7.3, the chapter's second example.
func TestFuseExample(t *testing.T) {
	d := made(t, 64, 4)
	want(t, "Fuse", d.Fuse(1), api.OK)
	want(t, "Write", d.Write(0, full(1)), api.OK)
	wantRead(t, d, 0, full(1))
	want(t, "Write", d.Write(0, full(2)), api.ErrDead)
	wantDead(t, d)
	wantWaiting(t, d, 0, 1)
	want(t, "Crash", d.Crash([]int{1}), api.OK)
	wantRead(t, d, 0, full(1))
}

// TestNewFuse: P7.3, a fuse anew where the first one is burnt but not found so, and one that a crash took away.
func TestNewFuse(t *testing.T) {
	d := made(t, 64, 1)
	want(t, "Fuse", d.Fuse(0), api.OK)
	want(t, "a Write without room", d.Write(0, nil), api.ErrArg)
	if d.Dead() {
		t.Error("dead by what was refused")
	}
	want(t, "Fuse", d.Fuse(2), api.OK)
	want(t, "Flush", d.Flush(), api.OK)
	want(t, "Fuse", d.Fuse(-1), api.ErrArg)
	want(t, "Flush", d.Flush(), api.OK)
	want(t, "Flush", d.Flush(), api.ErrDead)
	wantDead(t, d)
	want(t, "Crash", d.Crash(nil), api.OK)
	want(t, "Fuse", d.Fuse(0), api.OK)
	want(t, "Crash", d.Crash(nil), api.OK)
	want(t, "Flush", d.Flush(), api.OK)
	want(t, "Fuse", d.Fuse(math.MaxInt), api.OK)
	want(t, "Write", d.Write(0, full(1)), api.OK)
	want(t, "Flush", d.Flush(), api.OK)
	if d.Dead() || d.Writes() != 5 {
		t.Error("at the end:", d.Dead(), d.Writes())
	}
}

// TestMostWrites: P7.2 and P7.4, MaxSteps writes of a block wait; with each further one the oldest one arrives, of that block alone.
func TestMostWrites(t *testing.T) {
	for _, more := range []int{-1, 0, 1, 2, 3, 399, 400, 401} {
		n := 400 + more
		for _, pick := range []int{math.MinInt, -1, 0, 1, 2, 199, 398, 399, 400, 401, math.MaxInt} {
			d := made(t, 64, 3)
			want(t, "Write", d.Write(0, full(3)), api.OK)
			for i := 1; i <= n; i++ {
				want(t, "Write", d.Write(1, marked(64, i)), api.OK)
				if i%50 == 0 {
					want(t, "Write", d.Write(2, marked(64, 1000+i)), api.OK)
				}
			}
			waits := min(n, 400)
			wantWaiting(t, d, 0, 1, 1, waits, 2, n/50)
			wantRead(t, d, 1, marked(64, n))
			want(t, "Crash", d.Crash([]int{0, pick, 1}), api.OK)
			wantRead(t, d, 0, full(0))
			arrived := n - waits + min(max(pick, 0), waits)
			if arrived == 0 {
				wantRead(t, d, 1, full(0))
			} else {
				wantRead(t, d, 1, marked(64, arrived))
			}
			wantRead(t, d, 2, marked(64, 1050))
		}
	}
	d := made(t, 64, 1)
	want(t, "Fuse", d.Fuse(400), api.OK)
	for i := range 400 {
		want(t, "Write", d.Write(0, marked(64, i)), api.OK)
	}
	want(t, "Write", d.Write(0, marked(64, 400)), api.ErrDead)
	wantWaiting(t, d, 0, 400)
	want(t, "Crash", d.Crash(nil), api.OK)
	wantRead(t, d, 0, full(0))
}

// TestLoad: P7.5 and P7.4, on a block of which writes wait, on others, and on a dead device.
func TestLoad(t *testing.T) {
	for _, dead := range []bool{false, true} {
		for _, picks := range [][]int{nil, {0}, {1}, {2}, {1, 1}, {0, 1}} {
			d := made(t, 64, 4)
			for i, b := range []int{1, 2, 1, 2} {
				want(t, "Write", d.Write(b, full(byte(i+1))), api.OK)
			}
			want(t, "Fuse", d.Fuse(1), api.OK)
			if dead {
				want(t, "Flush", d.Flush(), api.OK)
				want(t, "Fuse", d.Fuse(2), api.OK)
				want(t, "Write", d.Write(1, full(3)), api.OK)
				want(t, "Write", d.Write(2, full(4)), api.OK)
				want(t, "Flush", d.Flush(), api.ErrDead)
			}
			done := d.Writes()
			want(t, "Load", d.Load(1, full(8)), api.OK)
			want(t, "Load", d.Load(3, full(9)), api.OK)
			want(t, "Load", d.Load(3, full(7)), api.OK)
			if d.Dead() != dead || d.Writes() != done {
				t.Error("behind Load:", d.Dead(), d.Writes())
			}
			if dead {
				wantWaiting(t, d, 2, 1)
				wantDead(t, d)
			} else {
				wantWaiting(t, d, 2, 2)
				wantRead(t, d, 1, full(8))
				wantRead(t, d, 3, full(7))
			}
			// Nothing of the loaded blocks waits, so the first pick tells of block 2.
			want(t, "Crash", d.Crash(picks), api.OK)
			second := byte(0)
			if dead {
				second = 4
			} else if len(picks) > 0 && picks[0] > 0 {
				second = byte(2 * picks[0])
			}
			for b, x := range []byte{0, 8, second, 7} {
				wantRead(t, d, b, full(x))
			}
		}
	}
	d := made(t, 64, 2)
	want(t, "Fuse", d.Fuse(1), api.OK)
	for i := range 5 {
		want(t, "Load", d.Load(0, full(byte(i))), api.OK)
	}
	want(t, "Write", d.Write(0, full(6)), api.OK)
	want(t, "Write", d.Write(0, full(7)), api.ErrDead)
	if d.Writes() != 1 {
		t.Error("Writes:", d.Writes())
	}
}

// TestPicks: P7.4, by picks that are written out: too few, too many, below 0 and too great.
func TestPicks(t *testing.T) {
	for _, c := range []struct {
		picks []int
		read  [4]byte
	}{
		{nil, [4]byte{90, 91, 92, 93}}, {[]int{}, [4]byte{90, 91, 92, 93}}, {[]int{0, 0, 0}, [4]byte{90, 91, 92, 93}},
		{[]int{1}, [4]byte{1, 91, 92, 93}}, {[]int{1, 1}, [4]byte{1, 91, 3, 93}}, {[]int{1, 1, 1}, [4]byte{1, 91, 3, 2}},
		{[]int{0, 2, 1, 1}, [4]byte{90, 91, 5, 2}}, {[]int{2, 3, 2}, [4]byte{1, 91, 6, 4}}, {[]int{2, 4, 3, 1, 1}, [4]byte{1, 91, 6, 4}},
		{[]int{-1, 0, 1}, [4]byte{90, 91, 92, 2}}, {[]int{math.MinInt, math.MaxInt, math.MinInt}, [4]byte{90, 91, 6, 93}}, {[]int{math.MaxInt, -1, math.MaxInt}, [4]byte{1, 91, 92, 4}},
		{[]int{0, 0, 0, 1, 2, 3}, [4]byte{90, 91, 92, 93}},
	} {
		d := made(t, 64, 4)
		for b := range 4 {
			want(t, "Load", d.Load(b, full(byte(90+b))), api.OK)
		}
		for i, b := range []int{0, 3, 2, 3, 2, 2} {
			want(t, "Write", d.Write(b, full(byte(i+1))), api.OK)
		}
		wantWaiting(t, d, 0, 1, 2, 3, 3, 2)
		want(t, "Crash", d.Crash(c.picks), api.OK)
		wantWaiting(t, d)
		for b, x := range c.read {
			wantRead(t, d, b, full(x))
		}
		// Nothing waits any more: a further crash, whatever its picks, leaves all as it is.
		want(t, "Crash", d.Crash([]int{1, 1, 1, 1}), api.OK)
		for b, x := range c.read {
			wantRead(t, d, b, full(x))
		}
		if d.Writes() != 6 {
			t.Error("Writes:", d.Writes())
		}
	}
}

// TestNil: what a nil device answers, whatever it is asked; the same of one that New never made, as long as it ends.
func TestNil(t *testing.T) {
	var d *device.Device
	if d.Block() != 0 || d.Blocks() != 0 || d.Writes() != 0 || len(d.Waiting()) != 0 || d.Dead() {
		t.Error("a nil device:", d.Block(), d.Blocks(), d.Writes(), d.Waiting(), d.Dead())
	}
	want(t, "Flush", d.Flush(), api.ErrArg)
	for _, n := range around(0) {
		got, e := d.Read(n)
		want(t, "Read", e, api.ErrArg)
		if len(got) != 0 {
			t.Error("Read:", got)
		}
		want(t, "Fuse", d.Fuse(n), api.ErrArg)
		for _, data := range [][]byte{nil, {}, full(1)} {
			want(t, "Write", d.Write(n, data), api.ErrArg)
			want(t, "Load", d.Load(n, data), api.ErrArg)
		}
		want(t, "Crash", d.Crash([]int{n}), api.ErrArg)
	}
	want(t, "Crash", d.Crash(nil), api.ErrArg)
	d = new(device.Device)
	for _, n := range around(0) {
		d.Read(n)
		d.Write(n, nil)
		d.Write(n, full(1))
		d.Load(n, nil)
		d.Flush()
		d.Fuse(n)
		d.Crash([]int{n})
		if d.Block() != 0 || d.Blocks() != 0 || len(d.Waiting()) != 0 || d.Dead() {
			t.Error("a device of nothing:", d.Block(), d.Blocks(), d.Waiting(), d.Dead())
		}
	}
}

// write is a write that the model holds back.
type write struct {
	b    int
	data string
}

// model is a device in the chapter's words: what has arrived in each block, and all writes that wait, of whatever block, in one row.
type model struct {
	block   int
	arrived []string
	row     []write
	fuse    int // below 0: there is none
	dead    bool
	done    int
}

func newModel(block, blocks int) *model {
	return &model{block: block, arrived: slices.Repeat([]string{strings.Repeat("\x00", block)}, blocks), fuse: -1}
}

// of answers the writes of block b that wait.
func (m *model) of(b int) []string {
	var list []string
	for _, w := range m.row {
		if w.b == b {
			list = append(list, w.data)
		}
	}
	return list
}

func (m *model) forget(b int) {
	m.row = slices.DeleteFunc(m.row, func(w write) bool { return w.b == b })
}

func (m *model) waiting() []int {
	var list []int
	for b := range m.arrived {
		if n := len(m.of(b)); n > 0 {
			list = append(list, b, n)
		}
	}
	return list
}

func (m *model) read(b int) (string, api.Errno) {
	switch {
	case m.dead:
		return "", api.ErrDead
	case b < 0 || b >= len(m.arrived):
		return "", api.ErrRange
	}
	versions := append([]string{m.arrived[b]}, m.of(b)...)
	return versions[len(versions)-1], api.OK
}

func (m *model) misfit(b int, data []byte) api.Errno {
	switch {
	case b < 0 || b >= len(m.arrived):
		return api.ErrRange
	case len(data) != m.block:
		return api.ErrArg
	}
	return api.OK
}

// step answers whether one more write or flush is done.
func (m *model) step() bool {
	m.dead = m.dead || m.fuse == 0
	if m.dead {
		return false
	}
	m.fuse = max(m.fuse-1, -1)
	m.done++
	return true
}

func (m *model) write(b int, data []byte) api.Errno {
	if e := m.misfit(b, data); e != api.OK {
		return e
	}
	if !m.step() {
		return api.ErrDead
	}
	if len(m.of(b)) == 400 {
		i := slices.IndexFunc(m.row, func(w write) bool { return w.b == b })
		m.arrived[b] = m.row[i].data
		m.row = slices.Delete(m.row, i, i+1)
	}
	m.row = append(m.row, write{b, string(data)})
	return api.OK
}

func (m *model) flush() api.Errno {
	if !m.step() {
		return api.ErrDead
	}
	for _, w := range m.row {
		m.arrived[w.b] = w.data
	}
	m.row = nil
	return api.OK
}

func (m *model) setFuse(n int) api.Errno {
	switch {
	case n < 0:
		return api.ErrArg
	case m.dead:
		return api.ErrDead
	}
	m.fuse = n
	return api.OK
}

func (m *model) crash(picks []int) api.Errno {
	waits := m.waiting()
	for i := 0; i < len(waits)/2 && i < len(picks); i++ {
		b := waits[2*i]
		versions := append([]string{m.arrived[b]}, m.of(b)...)
		m.arrived[b] = versions[max(0, min(picks[i], len(versions)-1))]
	}
	m.row, m.dead, m.fuse = nil, false, -1
	return api.OK
}

func (m *model) load(b int, data []byte) api.Errno {
	if e := m.misfit(b, data); e != api.OK {
		return e
	}
	m.arrived[b] = string(data)
	m.forget(b)
	return api.OK
}

// call is a call of a device, by the name of its method.
type call struct {
	name  string
	n     int
	data  []byte
	picks []int
}

// run answers what the device and the model answer to a call; of Read the bytes too.
func (c call) run(d *device.Device, m *model) (got, wanted api.Errno) {
	switch c.name {
	case "Read":
		b, e := d.Read(c.n)
		s, f := m.read(c.n)
		if string(b) != s {
			return -1, f
		}
		return e, f
	case "Write":
		return d.Write(c.n, c.data), m.write(c.n, c.data)
	case "Flush":
		return d.Flush(), m.flush()
	case "Fuse":
		return d.Fuse(c.n), m.setFuse(c.n)
	case "Crash":
		return d.Crash(c.picks), m.crash(c.picks)
	}
	return d.Load(c.n, c.data), m.load(c.n, c.data)
}

// same holds all that a device tells without being changed against the model.
func same(t *testing.T, d *device.Device, m *model, script any) {
	t.Helper()
	if d.Block() != m.block || d.Blocks() != len(m.arrived) || d.Dead() != m.dead || d.Writes() != m.done {
		t.Fatalf("behind %v: %d blocks of %d, dead %v, %d writes; should be dead %v, %d writes", script, d.Blocks(), d.Block(), d.Dead(), d.Writes(), m.dead, m.done)
	}
	if got := d.Waiting(); !slices.Equal(got, m.waiting()) {
		t.Fatalf("behind %v: Waiting %v, should be %v", script, got, m.waiting())
	}
	for b := -1; b <= len(m.arrived); b++ {
		got, e := d.Read(b)
		wanted, f := m.read(b)
		if e != f || string(got) != wanted {
			t.Fatalf("behind %v: Read(%d) %v, %v, should be %v, %v", script, b, got, e, []byte(wanted), f)
		}
	}
}

// TestAllScripts: P7.2 to P7.5, all scripts of few calls on a device of two blocks, held against the model behind each of them.
func TestAllScripts(t *testing.T) {
	calls := []call{
		{name: "Write", n: 0, data: full(1)}, {name: "Write", n: 0, data: full(2)}, {name: "Write", n: 1, data: full(3)}, {name: "Write", n: 2, data: full(4)},
		{name: "Flush"}, {name: "Fuse", n: 0}, {name: "Fuse", n: 1}, {name: "Fuse", n: -1},
		{name: "Crash"}, {name: "Crash", picks: []int{1}}, {name: "Crash", picks: []int{2, 1}}, {name: "Load", n: 0, data: full(5)},
	}
	var script []int
	var follow func(left int)
	follow = func(left int) {
		d, m := made(t, 64, 2), newModel(64, 2)
		for _, i := range script {
			if got, wanted := calls[i].run(d, m); got != wanted {
				t.Fatalf("script %v: %d, should be %d", script, got, wanted)
			}
		}
		same(t, d, m, script)
		if left == 0 {
			return
		}
		for i := range calls {
			script = append(script, i)
			follow(left - 1)
			script = script[:len(script)-1]
		}
	}
	follow(4)
}

// dice are numbers that are the same in each run.
type dice uint64

func (x *dice) below(n int) int {
	*x = *x*6364136223846793005 + 1442695040888963407
	return int(uint64(*x) >> 33 % uint64(n))
}

// nextCall makes a call of a script: writes that wait are many, what is refused is rare.
func (x *dice) nextCall(block, blocks, mark int) call {
	numbers := []int{-1, blocks, math.MinInt, math.MaxInt}
	b := x.below(blocks)
	if x.below(12) == 0 {
		b = numbers[x.below(4)]
	}
	data := marked(block, mark)
	switch x.below(25) {
	case 0:
		data = data[1:]
	case 1:
		data = append(data, 0)
	case 2:
		data = nil
	}
	switch k := x.below(100); {
	case k < 55:
		return call{name: "Write", n: b, data: data}
	case k < 65:
		return call{name: "Read", n: b}
	case k < 73:
		return call{name: "Flush"}
	case k < 83:
		return call{name: "Fuse", n: []int{0, 1, 2, 3, 5, 8, 20, -1, math.MinInt, math.MaxInt}[x.below(10)]}
	case k < 90:
		return call{name: "Load", n: b, data: data}
	}
	picks := make([]int, x.below(blocks+3))
	for i := range picks {
		picks[i] = x.below(7) - 1
		if x.below(20) == 0 {
			picks[i] = []int{math.MinInt, -1, 399, 400, 401, math.MaxInt}[x.below(6)]
		}
	}
	return call{name: "Crash", picks: picks}
}

// TestLongScripts: P7.2 to P7.5, long scripts of all calls, on devices of few blocks and of many.
func TestLongScripts(t *testing.T) {
	for seed := range 60 {
		x := dice(seed)
		x.below(2)
		block, blocks := blockSizes[seed%7], 1+x.below(6)
		if block == 4096 {
			block = 64
		}
		d, m := made(t, block, blocks), newModel(block, blocks)
		for i := range 600 {
			c := x.nextCall(block, blocks, i+1)
			if got, wanted := c.run(d, m); got != wanted {
				t.Fatalf("seed %d, call %d, %s(%d, %d bytes, %v): %d, should be %d", seed, i, c.name, c.n, len(c.data), c.picks, got, wanted)
			}
			same(t, d, m, i)
		}
	}
}

// TestManyWait: P7.2 and P7.4, scripts in which so many writes of each block wait that the oldest ones arrive, with crashes at the end.
func TestManyWait(t *testing.T) {
	for seed := range 12 {
		x := dice(1000 + seed)
		d, m := made(t, 64, 2), newModel(64, 2)
		for round := range 3 {
			for i := range 500 + x.below(700) {
				data := marked(64, 2000*round+i)
				b := min(1, x.below(3))
				if d.Write(b, data) != api.OK || m.write(b, data) != api.OK {
					t.Fatal("Write is refused")
				}
			}
			same(t, d, m, seed)
			picks := []int{x.below(402), x.below(402) - 1}
			if got, wanted := (call{name: "Crash", picks: picks}).run(d, m); got != wanted {
				t.Fatal("Crash:", got)
			}
			same(t, d, m, picks)
		}
	}
}

// probe tells all that can be told of a device, by using it up: what it answers, how far its fuse goes, and what a crash with these picks leaves.
func probe(d *device.Device, picks []int) []any {
	tell := []any{d.Block(), d.Blocks(), d.Dead(), d.Writes(), d.Waiting()}
	read := func() {
		for b := range d.Blocks() {
			data, e := d.Read(b)
			tell = append(tell, string(data), e)
		}
	}
	read()
	if len(picks) == 0 {
		for range 12 {
			tell = append(tell, d.Flush(), d.Writes(), d.Dead())
		}
	}
	d.Crash(picks)
	read()
	return append(tell, d.Dead(), d.Writes(), d.Flush())
}

// refused are calls that a device refuses, dead or not; what they may not change is all.
func refused(t *testing.T, d *device.Device) {
	t.Helper()
	want(t, "Write", d.Write(-1, full(77)), api.ErrRange)
	want(t, "Write", d.Write(d.Blocks(), full(77)), api.ErrRange)
	want(t, "Write", d.Write(0, full(77)[1:]), api.ErrArg)
	want(t, "Write", d.Write(d.Blocks()-1, append(full(77), 77)), api.ErrArg)
	want(t, "Write", d.Write(0, nil), api.ErrArg)
	want(t, "Load", d.Load(-1, full(77)), api.ErrRange)
	want(t, "Load", d.Load(math.MaxInt, full(77)), api.ErrRange)
	want(t, "Load", d.Load(0, full(77)[1:]), api.ErrArg)
	want(t, "Load", d.Load(0, append(full(77), 77)), api.ErrArg)
	want(t, "Fuse", d.Fuse(-1), api.ErrArg)
	want(t, "Fuse", d.Fuse(math.MinInt), api.ErrArg)
	d.Read(-1)
	d.Read(d.Blocks())
	if d.Dead() {
		want(t, "Fuse", d.Fuse(5), api.ErrDead)
		want(t, "Write", d.Write(0, full(77)), api.ErrDead)
		want(t, "Write", d.Write(1, full(78)), api.ErrDead)
		want(t, "Flush", d.Flush(), api.ErrDead)
		d.Read(0)
	}
}

// TestRefused: R6, of two devices with one script, one of which refuses calls between, both tell the same; so a nil device and devices that are not made leave nothing behind either.
func TestRefused(t *testing.T) {
	for seed := range 60 {
		for _, picks := range [][]int{nil, {1}, {0, 1, 2}, {2, 1, 1}, {9, 9, 9}} {
			x, y := dice(500+seed), dice(500+seed)
			plain, other := made(t, 64, 3), made(t, 64, 3)
			for i := range 1 + seed/2 {
				c := x.nextCall(64, 3, i)
				c.run(plain, newModel(64, 3))
				refused(t, other)
				device.New(65, 3)
				(*device.Device)(nil).Flush()
				c = y.nextCall(64, 3, i)
				c.run(other, newModel(64, 3))
				refused(t, other)
			}
			a, b := probe(plain, picks), probe(other, picks)
			if !slices.EqualFunc(a, b, func(v, w any) bool {
				l, ok := v.([]int)
				return ok && slices.Equal(l, w.([]int)) || !ok && v == w
			}) {
				t.Fatalf("seed %d, picks %v: %v, should be %v", seed, picks, b, a)
			}
		}
	}
}

// room is a list with others in front of and behind it, which no call may read or change.
type room[T byte | int] struct {
	all, list, kept []T
}

func newRoom[T byte | int](list []T, fill T) *room[T] {
	all := slices.Repeat([]T{fill}, len(list)+200)
	copy(all[100:], list)
	return &room[T]{all: all, list: all[100 : 100+len(list)], kept: slices.Clone(all)}
}

func (r *room[T]) check(t *testing.T, call string) {
	t.Helper()
	if !slices.Equal(r.all, r.kept) {
		t.Errorf("%s changed what it was handed", call)
	}
}

// turnOver writes over a list and the room behind it.
func turnOver[T byte | int](list []T) {
	list = list[:cap(list)]
	for i := range list {
		list[i] = ^list[i]
	}
}

// TestArguments: R4, bytes and picks are as they were, the room around them too, what stands there does not matter, and nothing of them is kept.
func TestArguments(t *testing.T) {
	for _, fill := range []byte{0, 1, 255} {
		d := made(t, 64, 3)
		first, second, loaded := newRoom(marked(64, 1), fill), newRoom(marked(64, 2), fill), newRoom(marked(64, 3), fill)
		want(t, "Write", d.Write(0, first.list), api.OK)
		want(t, "Write", d.Write(0, second.list), api.OK)
		want(t, "Write", d.Write(1, second.list), api.OK)
		want(t, "Load", d.Load(2, loaded.list), api.OK)
		want(t, "a short Write", d.Write(0, first.list[:63]), api.ErrArg)
		want(t, "a short Load", d.Load(0, first.list[:63]), api.ErrArg)
		first.check(t, "Write")
		second.check(t, "Write")
		loaded.check(t, "Load")
		turnOver(first.all)
		turnOver(second.all)
		turnOver(loaded.all)
		wantRead(t, d, 0, marked(64, 2))
		wantRead(t, d, 1, marked(64, 2))
		wantRead(t, d, 2, marked(64, 3))
		for _, n := range []int{1, -1, math.MaxInt, 0} {
			picks := newRoom([]int{1}, n)
			want(t, "Crash", d.Crash(picks.list), api.OK)
			picks.check(t, "Crash")
			turnOver(picks.all)
			wantRead(t, d, 0, marked(64, 1))
			wantRead(t, d, 1, full(0))
			want(t, "Flush", d.Flush(), api.OK)
			want(t, "Load", d.Load(1, full(0)), api.OK)
			want(t, "Write", d.Write(0, marked(64, 1)), api.OK)
			want(t, "Write", d.Write(1, marked(64, 2)), api.OK)
		}
		// What arrived is a copy too, by a flush and by being the oldest of many.
		arrives := newRoom(marked(64, 4), fill)
		want(t, "Write", d.Write(1, arrives.list), api.OK)
		want(t, "Flush", d.Flush(), api.OK)
		turnOver(arrives.all)
		wantRead(t, d, 1, marked(64, 4))
		for range 401 {
			oldest := newRoom(marked(64, 5), fill)
			want(t, "Write", d.Write(1, oldest.list), api.OK)
			turnOver(oldest.all)
		}
		want(t, "Crash", d.Crash(nil), api.OK)
		wantRead(t, d, 1, marked(64, 5))
	}
}

// TestAnswersApart: R4, what was answered stays as it is when other answers are written over, the room behind them too, and the device as well, whatever waits or has arrived; a later call changes no earlier answer.
func TestAnswersApart(t *testing.T) {
	d, m := made(t, 64, 3), newModel(64, 3)
	script := []call{
		{name: "Read", n: 0}, {name: "Write", n: 0, data: marked(64, 1)}, {name: "Write", n: 2, data: marked(64, 2)}, {name: "Write", n: 0, data: marked(64, 3)},
		{name: "Crash", picks: []int{1, 1}}, {name: "Write", n: 1, data: marked(64, 4)}, {name: "Flush"}, {name: "Load", n: 1, data: marked(64, 5)}, {name: "Write", n: 1, data: marked(64, 6)},
		{name: "Crash", picks: []int{1}}, {name: "Write", n: 1, data: marked(64, 7)}, {name: "Load", n: 1, data: marked(64, 8)}, {name: "Crash"},
	}
	var answers, kept [][]byte
	for i, c := range script {
		if got, wanted := c.run(d, m); got != wanted {
			t.Fatal("call:", i, got, wanted)
		}
		waits, again := d.Waiting(), d.Waiting()
		turnOver(waits)
		if !slices.Equal(again, m.waiting()) {
			t.Error("Waiting is shared:", again)
		}
		for b := range 3 {
			one, _ := d.Read(b)
			two, _ := d.Read(b)
			turnOver(one)
			if s, _ := m.read(b); string(two) != s {
				t.Error("Read is shared:", b, two)
			}
			answers, kept = append(answers, two), append(kept, bytes.Clone(two))
		}
		same(t, d, m, i)
	}
	for i := range answers {
		if !bytes.Equal(answers[i], kept[i]) {
			t.Error("an answer was changed later:", i)
		}
		_ = append(answers[i], 1, 2, 3)
		turnOver(answers[i])
	}
	same(t, d, m, "all answers are written over")
}

// TestTwoDevices: R5, devices whose calls go in turns tell what each would tell alone.
func TestTwoDevices(t *testing.T) {
	var all [4]*device.Device
	var models [4]*model
	x := dice(77)
	for i := range all {
		all[i], models[i] = made(t, 64, 1+i), newModel(64, 1+i)
	}
	for i := range 2000 {
		k := x.below(4)
		c := x.nextCall(64, 1+k, i)
		if got, wanted := c.run(all[k], models[k]); got != wanted {
			t.Fatal("call:", i, c.name, got, wanted)
		}
		for j := range all {
			same(t, all[j], models[j], i)
		}
	}
}
