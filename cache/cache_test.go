package cache_test

import (
	"bytes"
	"math"
	"slices"
	"testing"

	"skerry/api"
	"skerry/cache"
	"skerry/device"
)

// far are numbers that no device and no cache has anything for.
var far = []int{math.MinInt, math.MinInt + 1, math.MinInt/2 - 1, math.MinInt32 - 1, math.MinInt32, -4096, -64, -2, 1 << 21, math.MaxInt32, math.MaxUint32 + 1, math.MaxUint32 + 2, math.MaxInt / 64, math.MaxInt/2 + 1, math.MaxInt - 63, math.MaxInt - 1, math.MaxInt}

// around are far numbers, and the ones given with those just beside them.
func around(some ...int) []int {
	list := slices.Clone(far)
	for _, n := range some {
		list = append(list, n-1, n, n+1)
	}
	slices.Sort(list)
	return slices.Compact(list)
}

// marked answers a block of bytes that no other mark below 60000 has.
func marked(n, mark int) []byte {
	b := make([]byte, n)
	for i := range b {
		b[i] = byte(mark + 31*i + i*i*(mark/251))
	}
	copy(b[n-2:], []byte{byte(mark / 250), byte(mark % 250)})
	return b
}

func full(x byte) []byte {
	return bytes.Repeat([]byte{x}, 64)
}

// stood answers a device in whose block b all bytes are 100 + b, and nothing waits.
func stood(t *testing.T, blocks int) *device.Device {
	t.Helper()
	d, e := device.New(64, blocks)
	if d == nil || e != api.OK {
		t.Fatalf("device.New(64, %d): %v, %v", blocks, d, e)
	}
	for b := range blocks {
		want(t, "Load", d.Load(b, full(byte(100+b))), api.OK)
	}
	return d
}

// made answers a cache that must be there.
func made(t *testing.T, d *device.Device, capacity int, picks ...int) *cache.Cache {
	t.Helper()
	c, e := cache.New(d, capacity, picks)
	if c == nil || e != api.OK {
		t.Fatalf("New(%d, %v): %v, %v", capacity, picks, c, e)
	}
	return c
}

// want holds what a call answered against what it should.
func want(t *testing.T, call string, got, wanted api.Errno) {
	t.Helper()
	if got != wanted {
		t.Errorf("%s: %d, should be %d", call, got, wanted)
	}
}

func wantList(t *testing.T, call string, got []int, wanted ...int) {
	t.Helper()
	if !slices.Equal(got, wanted) {
		t.Errorf("%s: %v, should be %v", call, got, wanted)
	}
}

func wantGet(t *testing.T, c *cache.Cache, b int, wanted []byte) {
	t.Helper()
	if got, e := c.Get(b); e != api.OK || !bytes.Equal(got, wanted) {
		t.Errorf("Get(%d): %v, %v, should be %v", b, got, e, wanted)
	}
}

// wantNoGet holds a Get that is refused against the error that it should be.
func wantNoGet(t *testing.T, c *cache.Cache, b int, wanted api.Errno) {
	t.Helper()
	if got, e := c.Get(b); e != wanted || len(got) != 0 {
		t.Errorf("Get(%d): %v, %v, should be %v", b, got, e, wanted)
	}
}

func wantRead(t *testing.T, d *device.Device, b int, wanted []byte) {
	t.Helper()
	if got, e := d.Read(b); e != api.OK || !bytes.Equal(got, wanted) {
		t.Errorf("Read(%d): %v, %v, should be %v", b, got, e, wanted)
	}
}

// die lets a device be found dead.
func die(t *testing.T, d *device.Device) {
	t.Helper()
	want(t, "Fuse", d.Fuse(0), api.OK)
	want(t, "Flush", d.Flush(), api.ErrDead)
}

// TestExample: P8.1 to P8.5, the chapter's example.
func TestExample(t *testing.T) {
	d := stood(t, 12)
	c := made(t, d, 2, 1)
	for _, b := range []int{5, 3} {
		want(t, "Put", c.Put(b, full(byte(b))), api.OK)
	}
	wantList(t, "Waiting", d.Waiting())
	want(t, "Put", c.Put(9, full(9)), api.OK)
	wantList(t, "Waiting", d.Waiting(), 5, 1)
	wantRead(t, d, 5, full(5))
	wantList(t, "Held", c.Held(), 3, 9)
	wantList(t, "Dirty", c.Dirty(), 3, 9)
	want(t, "Pin", c.Pin(3), api.OK)
	want(t, "Pin", c.Pin(9), api.OK)
	wantNoGet(t, c, 4, api.ErrFull)
	wantList(t, "Held", c.Held(), 3, 9)
}

// TestNew: P8.1 and R1, a nil device, and capacities at their edges and far from them.
func TestNew(t *testing.T) {
	d := stood(t, 3)
	for _, capacity := range around(0, 1, 2, 3, 64, 255, 256, 511, 512, 513, 4096) {
		wanted := api.OK
		if capacity < 1 || capacity > 512 {
			wanted = api.ErrArg
		}
		for _, picks := range [][]int{nil, {}, {0}, far} {
			c, e := cache.New(d, capacity, picks)
			want(t, "New", e, wanted)
			if (c != nil) != (e == api.OK) {
				t.Errorf("New(%d): %v, %v", capacity, c, e)
			}
			if c, e := cache.New(nil, capacity, picks); c != nil || e != api.ErrArg {
				t.Errorf("New(nil, %d): %v, %v", capacity, c, e)
			}
			if c == nil {
				continue
			}
			wantList(t, "Held", c.Held())
			wantList(t, "Dirty", c.Dirty())
		}
	}
	if d.Writes() != 0 || d.Dead() || len(d.Waiting()) != 0 {
		t.Error("New did something to the device:", d.Writes(), d.Dead(), d.Waiting())
	}
}

// TestNewOnAnyDevice: P8.1, a device that is dead, one of which writes wait, and one that was never made.
func TestNewOnAnyDevice(t *testing.T) {
	d := stood(t, 3)
	want(t, "Write", d.Write(1, full(1)), api.OK)
	c := made(t, d, 2)
	wantGet(t, c, 1, full(1))
	wantList(t, "Waiting", d.Waiting(), 1, 1)
	die(t, d)
	c = made(t, d, 2)
	wantList(t, "Held", c.Held())
	wantNoGet(t, c, 0, api.ErrDead)
	c = made(t, new(device.Device), 1)
	for _, b := range around(0) {
		wantNoGet(t, c, b, api.ErrRange)
		want(t, "Put", c.Put(b, nil), api.ErrRange)
		want(t, "Clean", c.Clean(b, nil), api.ErrRange)
		want(t, "Pin", c.Pin(b), api.ErrRange)
	}
	want(t, "All", c.All(), api.OK)
}

// TestCapacities: P8.1, just as many blocks are held as the capacity says, the greatest one too, and no more than there are.
func TestCapacities(t *testing.T) {
	for _, capacity := range []int{1, 2, 3, 16, 511, 512} {
		for _, blocks := range []int{1, 2, 3, 15, 16, 17, 510, 511, 512, 513, 600} {
			for _, put := range []bool{false, true} {
				d := stood(t, blocks)
				c := made(t, d, capacity, 1, 1, 1)
				for b := range blocks {
					if put {
						want(t, "Put", c.Put(b, full(byte(b))), api.OK)
					} else {
						wantGet(t, c, b, full(byte(100+b)))
					}
					if n := len(c.Held()); n != min(b+1, capacity) {
						t.Fatalf("capacity %d of %d: %d are held behind %d", capacity, blocks, n, b+1)
					}
				}
				gone := max(blocks-capacity, 0)
				if !put {
					gone = 0
				}
				if d.Writes() != gone || len(d.Waiting()) != 2*gone {
					t.Errorf("capacity %d of %d: %d writes, should be %d", capacity, blocks, d.Writes(), gone)
				}
			}
		}
	}
}

// TestNumbers: P8.2 to P8.5 and R1, the first block, the last one, those beside them and far ones, on a cache that holds nothing and on one that holds all it can.
func TestNumbers(t *testing.T) {
	for _, blocks := range []int{1, 2, 4, 4096} {
		for _, b := range around(0, 1, blocks-1, blocks) {
			d := stood(t, blocks)
			if b >= 0 && b < blocks {
				c := made(t, d, 1)
				want(t, "Pin", c.Pin(b), api.ErrNone)
				want(t, "Unpin", c.Unpin(b), api.ErrNone)
				want(t, "Drop", c.Drop(b), api.ErrNone)
				want(t, "Clean", c.Clean(b, full(1)), api.OK)
				want(t, "Out", c.Out([]int{b}), api.OK)
				wantList(t, "Held", c.Held())
				wantGet(t, c, b, full(byte(100+b)))
				want(t, "Put", c.Put(b, full(2)), api.OK)
				want(t, "Pin", c.Pin(b), api.OK)
				want(t, "Unpin", c.Unpin(b), api.OK)
				want(t, "Out", c.Out([]int{b}), api.OK)
				wantRead(t, d, b, full(2))
				want(t, "Clean", c.Clean(b, full(3)), api.OK)
				wantGet(t, c, b, full(3))
				want(t, "Drop", c.Drop(b), api.OK)
				wantList(t, "Held", c.Held())
				continue
			}
			for _, holds := range []bool{false, true} {
				c := made(t, d, 1)
				if holds {
					want(t, "Put", c.Put(0, full(1)), api.OK)
					want(t, "Pin", c.Pin(0), api.OK)
				}
				wantNoGet(t, c, b, api.ErrRange)
				want(t, "Put", c.Put(b, full(1)), api.ErrRange)
				want(t, "Clean", c.Clean(b, full(1)), api.ErrRange)
				want(t, "Pin", c.Pin(b), api.ErrRange)
				want(t, "Unpin", c.Unpin(b), api.ErrRange)
				want(t, "Drop", c.Drop(b), api.ErrRange)
				want(t, "Out", c.Out([]int{b}), api.ErrRange)
				want(t, "Out", c.Out([]int{0, b}), api.ErrRange)
				if holds {
					wantList(t, "Dirty", c.Dirty(), 0)
				}
			}
			if d.Writes() != 0 {
				t.Error("what was refused is written:", d.Writes())
			}
		}
	}
}

// TestLengths: P8.3, data of each length up to two blocks, and nil, of held blocks, of others and of no block.
func TestLengths(t *testing.T) {
	for _, block := range []int{64, 128, 4096} {
		d, _ := device.New(block, 3)
		c := made(t, d, 2)
		want(t, "Put", c.Put(1, marked(block, 7)), api.OK)
		for _, n := range []int{-1, 0, 1, 2, 63, 64, 65, 127, 128, 129, 255, 256, 4095, 4096, 4097, 8192} {
			if n == block {
				continue
			}
			var data []byte
			if n >= 0 {
				data = make([]byte, n)
			}
			for _, b := range []int{0, 1} {
				want(t, "Put", c.Put(b, data), api.ErrArg)
				want(t, "Clean", c.Clean(b, data), api.ErrArg)
			}
			for _, b := range []int{-1, 3, math.MinInt, math.MaxInt} {
				want(t, "Put", c.Put(b, data), api.ErrRange)
				want(t, "Clean", c.Clean(b, data), api.ErrRange)
			}
		}
		wantList(t, "Held", c.Held(), 1)
		wantList(t, "Dirty", c.Dirty(), 1)
		wantGet(t, c, 1, marked(block, 7))
		want(t, "Put", c.Put(0, marked(block, 8)), api.OK)
		want(t, "Clean", c.Clean(1, marked(block, 9)), api.OK)
		wantGet(t, c, 0, marked(block, 8))
		wantGet(t, c, 1, marked(block, 9))
	}
}

// TestErrorsInOrder: P8.2 to P8.5 and R2, calls for which several errors hold: no block, wrong data, nothing held, all pinned, a device that is dead.
func TestErrorsInOrder(t *testing.T) {
	d := stood(t, 4)
	c := made(t, d, 2)
	want(t, "Put", c.Put(0, full(1)), api.OK)
	want(t, "Put", c.Put(1, full(2)), api.OK)
	for _, state := range []string{"loose", "dead", "dead and pinned"} {
		short, noRoom := full(3)[1:], api.ErrDead
		switch state {
		case "dead":
			die(t, d)
		case "dead and pinned":
			noRoom = api.ErrFull
			want(t, "Pin", c.Pin(0), api.OK)
			want(t, "Pin", c.Pin(1), api.OK)
			want(t, "Drop", c.Drop(1), api.ErrBusy)
		}
		for _, b := range []int{-1, 4, math.MinInt, math.MaxInt} {
			wantNoGet(t, c, b, api.ErrRange)
			want(t, state+": Put", c.Put(b, short), api.ErrRange)
			want(t, state+": Put", c.Put(b, full(3)), api.ErrRange)
			want(t, state+": Clean", c.Clean(b, short), api.ErrRange)
			want(t, state+": Pin", c.Pin(b), api.ErrRange)
			want(t, state+": Unpin", c.Unpin(b), api.ErrRange)
			want(t, state+": Drop", c.Drop(b), api.ErrRange)
			want(t, state+": Out", c.Out([]int{0, 1, b}), api.ErrRange)
		}
		want(t, state+": Put", c.Put(2, short), api.ErrArg)
		want(t, state+": Clean", c.Clean(2, short), api.ErrArg)
		want(t, state+": Clean", c.Clean(2, full(3)), api.OK)
		want(t, state+": Pin", c.Pin(2), api.ErrNone)
		want(t, state+": Unpin", c.Unpin(2), api.ErrNone)
		want(t, state+": Drop", c.Drop(2), api.ErrNone)
		wantList(t, state+": Dirty", c.Dirty(), 0, 1)
		if state != "loose" {
			want(t, state+": Put", c.Put(2, full(3)), noRoom)
			wantNoGet(t, c, 2, noRoom)
			wantList(t, state+": Held", c.Held(), 0, 1)
			want(t, state+": Out", c.Out([]int{1, 0}), api.ErrDead)
			want(t, state+": All", c.All(), api.ErrDead)
		}
	}
}

// TestGet: P8.2, what was not held is read from the device and held; what is held is not read again, whatever becomes of the device.
func TestGet(t *testing.T) {
	d := stood(t, 4)
	c := made(t, d, 3)
	wantGet(t, c, 2, full(102))
	wantList(t, "Held", c.Held(), 2)
	wantList(t, "Dirty", c.Dirty())
	want(t, "Load", d.Load(2, full(1)), api.OK)
	wantGet(t, c, 2, full(102))
	want(t, "Write", d.Write(1, full(2)), api.OK)
	wantGet(t, c, 1, full(2))
	want(t, "Write", d.Write(1, full(3)), api.OK)
	wantGet(t, c, 1, full(2))
	want(t, "Put", c.Put(0, full(4)), api.OK)
	wantGet(t, c, 0, full(4))
	wantList(t, "Held", c.Held(), 0, 1, 2)
	wantList(t, "Dirty", c.Dirty(), 0)
	die(t, d)
	wantGet(t, c, 0, full(4))
	wantGet(t, c, 1, full(2))
	wantGet(t, c, 2, full(102))
	want(t, "Crash", d.Crash(nil), api.OK)
	wantGet(t, c, 1, full(2))
	want(t, "Drop", c.Drop(1), api.OK)
	wantGet(t, c, 1, full(101))
	if d.Writes() != 2 {
		t.Error("Get wrote something:", d.Writes())
	}
}

// TestGetErrors: P8.2, where the device refuses to be read, the block is not held: with room nothing else changes, without it a clean block has gone and a pick is used up.
func TestGetErrors(t *testing.T) {
	d := stood(t, 6)
	c := made(t, d, 3, 1, 1)
	wantGet(t, c, 0, full(100))
	wantGet(t, c, 2, full(102))
	die(t, d)
	wantNoGet(t, c, 1, api.ErrDead)
	wantList(t, "Held", c.Held(), 0, 2)
	// The device is not asked where bytes are put, so the cache is full, and no pick is used up so far.
	want(t, "Put", c.Put(4, full(4)), api.OK)
	wantNoGet(t, c, 5, api.ErrDead)
	wantList(t, "Held", c.Held(), 0, 4)
	want(t, "Put", c.Put(1, full(1)), api.OK)
	wantList(t, "Held", c.Held(), 0, 1, 4)
	// The second pick names 1, which is dirty, and so stays.
	wantNoGet(t, c, 5, api.ErrDead)
	wantList(t, "Held", c.Held(), 0, 1, 4)
	wantList(t, "Dirty", c.Dirty(), 1, 4)
	// Behind the picks the first one goes, which is clean.
	wantNoGet(t, c, 5, api.ErrDead)
	wantList(t, "Held", c.Held(), 1, 4)
	if d.Writes() != 0 {
		t.Error("Writes:", d.Writes())
	}
	want(t, "Crash", d.Crash(nil), api.OK)
	wantGet(t, c, 5, full(105))
	wantList(t, "Held", c.Held(), 1, 4, 5)
	wantGet(t, c, 1, full(1))
}

// TestPut: P8.3, a block that is not held, one that is clean and one that is dirty; the device gets nothing of it.
func TestPut(t *testing.T) {
	d := stood(t, 4)
	c := made(t, d, 4)
	want(t, "Put", c.Put(3, full(1)), api.OK)
	wantGet(t, c, 3, full(1))
	want(t, "Put", c.Put(3, full(2)), api.OK)
	wantGet(t, c, 3, full(2))
	wantGet(t, c, 0, full(100))
	want(t, "Put", c.Put(0, full(3)), api.OK)
	wantGet(t, c, 0, full(3))
	wantGet(t, c, 1, full(101))
	wantList(t, "Held", c.Held(), 0, 1, 3)
	wantList(t, "Dirty", c.Dirty(), 0, 3)
	// The same bytes as the device has are dirty too.
	want(t, "Put", c.Put(1, full(101)), api.OK)
	wantList(t, "Dirty", c.Dirty(), 0, 1, 3)
	wantList(t, "Waiting", d.Waiting())
	want(t, "Out", c.Out([]int{3}), api.OK)
	wantList(t, "Dirty", c.Dirty(), 0, 1)
	want(t, "Put", c.Put(3, full(4)), api.OK)
	wantList(t, "Dirty", c.Dirty(), 0, 1, 3)
	die(t, d)
	want(t, "Put", c.Put(2, full(5)), api.OK)
	want(t, "Put", c.Put(2, full(6)), api.OK)
	wantGet(t, c, 2, full(6))
	wantList(t, "Dirty", c.Dirty(), 0, 1, 2, 3)
}

// TestClean: P8.3, of a block that is held and dirty, held and clean, and not held; pins stay, and the device is not asked.
func TestClean(t *testing.T) {
	d := stood(t, 4)
	c := made(t, d, 2)
	want(t, "Put", c.Put(0, full(1)), api.OK)
	want(t, "Pin", c.Pin(0), api.OK)
	wantGet(t, c, 1, full(101))
	die(t, d)
	want(t, "Clean", c.Clean(0, full(2)), api.OK)
	want(t, "Clean", c.Clean(1, full(3)), api.OK)
	want(t, "Clean", c.Clean(2, full(4)), api.OK)
	wantList(t, "Held", c.Held(), 0, 1)
	wantList(t, "Dirty", c.Dirty())
	wantGet(t, c, 0, full(2))
	wantGet(t, c, 1, full(3))
	want(t, "Drop", c.Drop(0), api.ErrBusy)
	want(t, "Unpin", c.Unpin(0), api.OK)
	want(t, "Unpin", c.Unpin(0), api.ErrNone)
	want(t, "All", c.All(), api.OK)
	want(t, "Crash", d.Crash(nil), api.OK)
	// What was told is not written when it goes: the device has what it had.
	wantGet(t, c, 2, full(102))
	wantGet(t, c, 3, full(103))
	wantList(t, "Held", c.Held(), 2, 3)
	wantGet(t, c, 0, full(100))
	if d.Writes() != 0 {
		t.Error("Clean wrote something:", d.Writes())
	}
}

// TestPins: P8.4, pins are counted, Put and Out leave them, and what is pinned is neither dropped nor does it go.
func TestPins(t *testing.T) {
	d := stood(t, 6)
	c := made(t, d, 2)
	want(t, "Unpin", c.Unpin(3), api.ErrNone)
	wantGet(t, c, 3, full(103))
	want(t, "Unpin", c.Unpin(3), api.ErrNone)
	want(t, "Pin", c.Pin(3), api.OK)
	want(t, "Pin", c.Pin(3), api.OK)
	want(t, "Unpin", c.Unpin(3), api.OK)
	want(t, "Drop", c.Drop(3), api.ErrBusy)
	for _, b := range []int{0, 1, 4} {
		want(t, "Put", c.Put(b, full(byte(b))), api.OK)
		wantList(t, "Held", c.Held(), min(b, 3), max(b, 3))
	}
	want(t, "Put", c.Put(3, full(1)), api.OK)
	want(t, "Out", c.Out([]int{3}), api.OK)
	want(t, "Drop", c.Drop(3), api.ErrBusy)
	want(t, "Unpin", c.Unpin(3), api.OK)
	want(t, "Unpin", c.Unpin(3), api.ErrNone)
	want(t, "Drop", c.Drop(3), api.OK)
	want(t, "Drop", c.Drop(3), api.ErrNone)
	want(t, "Unpin", c.Unpin(3), api.ErrNone)
	want(t, "Pin", c.Pin(3), api.ErrNone)
	// Held anew, it is not pinned.
	wantGet(t, c, 3, full(1))
	want(t, "Unpin", c.Unpin(3), api.ErrNone)
	for range 1000 {
		want(t, "Pin", c.Pin(3), api.OK)
	}
	for range 1000 {
		want(t, "Drop", c.Drop(3), api.ErrBusy)
		want(t, "Unpin", c.Unpin(3), api.OK)
	}
	want(t, "Unpin", c.Unpin(3), api.ErrNone)
	want(t, "Drop", c.Drop(3), api.OK)
}

// TestDrop: P8.4, dirty bytes are forgotten, clean ones too, and there is room again.
func TestDrop(t *testing.T) {
	d := stood(t, 4)
	c := made(t, d, 1, 0, 0)
	want(t, "Put", c.Put(1, full(1)), api.OK)
	want(t, "Drop", c.Drop(1), api.OK)
	wantList(t, "Held", c.Held())
	wantList(t, "Dirty", c.Dirty())
	wantGet(t, c, 1, full(101))
	want(t, "Put", c.Put(1, full(2)), api.OK)
	want(t, "Out", c.Out([]int{1}), api.OK)
	want(t, "Put", c.Put(1, full(3)), api.OK)
	want(t, "Drop", c.Drop(1), api.OK)
	wantGet(t, c, 1, full(2))
	want(t, "Load", d.Load(1, full(4)), api.OK)
	want(t, "Drop", c.Drop(1), api.OK)
	wantGet(t, c, 1, full(4))
	want(t, "Drop", c.Drop(1), api.OK)
	die(t, d)
	want(t, "Put", c.Put(2, full(5)), api.OK)
	want(t, "Drop", c.Drop(2), api.OK)
	want(t, "Drop", c.Drop(2), api.ErrNone)
	wantNoGet(t, c, 2, api.ErrDead)
	if d.Writes() != 1 {
		t.Error("Drop wrote something:", d.Writes())
	}
}

// TestWhichGoes: how room is made, by answers that are written out: of 2, 5, 6 and 9 those that are not pinned, and a pick.
func TestWhichGoes(t *testing.T) {
	least, most := math.MinInt, math.MaxInt
	for _, x := range []struct {
		pinned []int
		picks  []int
		goes   int
	}{
		{nil, nil, 2}, {nil, []int{}, 2}, {nil, []int{0}, 2}, {nil, []int{1}, 5}, {nil, []int{2}, 6}, {nil, []int{3}, 9}, {nil, []int{4}, 9}, {nil, []int{5}, 9}, {nil, []int{most}, 9}, {nil, []int{-1}, 2}, {nil, []int{least}, 2}, {nil, []int{-3}, 2},
		{[]int{2}, nil, 5}, {[]int{2}, []int{-1}, 5}, {[]int{2}, []int{0}, 5}, {[]int{2}, []int{1}, 6}, {[]int{2}, []int{2}, 9}, {[]int{2}, []int{3}, 9}, {[]int{2}, []int{most}, 9}, {[]int{2}, []int{least}, 5},
		{[]int{9}, []int{2}, 6}, {[]int{9}, []int{3}, 6}, {[]int{5, 6}, []int{1}, 9}, {[]int{5, 6}, []int{0}, 2}, {[]int{2, 5, 6}, []int{0}, 9}, {[]int{2, 5, 6}, nil, 9}, {[]int{2, 5, 6}, []int{most}, 9}, {[]int{5, 6, 9}, []int{7}, 2}, {[]int{2, 6, 9}, []int{least}, 5},
		{nil, []int{1, 2}, 5}, {nil, []int{1, 0, 3}, 5},
	} {
		d := stood(t, 12)
		c := made(t, d, 4, x.picks...)
		for _, b := range []int{9, 5, 2, 6} {
			wantGet(t, c, b, full(byte(100+b)))
		}
		for _, b := range x.pinned {
			want(t, "Pin", c.Pin(b), api.OK)
		}
		wantGet(t, c, 7, full(107))
		stays := slices.DeleteFunc([]int{2, 5, 6, 7, 9}, func(b int) bool { return b == x.goes })
		if got := c.Held(); !slices.Equal(got, stays) {
			t.Errorf("pinned %v, picks %v: %v are held, %d should have gone", x.pinned, x.picks, got, x.goes)
		}
	}
}

// TestAllRooms: how room is made, for each set of pinned and of dirty blocks, each kind of pick, by Get and by Put, with a fuse and without: which block goes, what is written of it, and what stays.
func TestAllRooms(t *testing.T) {
	blocks := []int{2, 5, 6, 9}
	for _, pick := range []int{math.MinInt, -1, 0, 1, 2, 3, 4, math.MaxInt} {
		for sets := range 256 {
			for way := range 6 {
				put, state := way%2 == 1, way/2
				pinned, dirty := sets%16, sets/16
				d := stood(t, 12)
				c := made(t, d, 4, pick)
				var loose, stayDirty []int
				for i, b := range blocks {
					if dirty>>i&1 == 1 {
						want(t, "Put", c.Put(b, full(byte(b))), api.OK)
						stayDirty = append(stayDirty, b)
					} else {
						wantGet(t, c, b, full(byte(100+b)))
					}
					if pinned>>i&1 == 1 {
						want(t, "Pin", c.Pin(b), api.OK)
					} else {
						loose = append(loose, b)
					}
				}
				// A burnt fuse that nothing has found yet lets a clean block go; a dead device does too, but reads nothing.
				if state == 1 {
					want(t, "Fuse", d.Fuse(0), api.OK)
				} else if state == 2 {
					die(t, d)
				}
				wanted, stay, waits := api.OK, slices.Clone(blocks), []int(nil)
				goes := -1
				switch {
				case len(loose) == 0:
					wanted = api.ErrFull
				case pick < 0:
					goes = loose[0]
				case pick >= len(loose):
					goes = loose[len(loose)-1]
				default:
					goes = loose[pick]
				}
				if slices.Contains(stayDirty, goes) && state > 0 {
					wanted, goes = api.ErrDead, -1
				}
				if slices.Contains(stayDirty, goes) {
					waits = []int{goes, 1}
				}
				remove := func(b int) bool { return b == goes }
				stay, stayDirty = slices.DeleteFunc(stay, remove), slices.DeleteFunc(stayDirty, remove)
				if wanted == api.OK && state == 2 && !put {
					wanted = api.ErrDead
				} else if wanted == api.OK {
					stay = append(stay, 11)
				}
				var e api.Errno
				if put {
					e = c.Put(11, full(11))
				} else {
					_, e = c.Get(11)
				}
				if put && wanted == api.OK {
					stayDirty = append(stayDirty, 11)
				}
				if e != wanted || !slices.Equal(c.Held(), stay) || !slices.Equal(c.Dirty(), stayDirty) || !slices.Equal(d.Waiting(), waits) || d.Writes() != len(waits)/2 {
					t.Fatalf("pick %d, pinned %b, dirty %b, way %d: %d, held %v, dirty %v, waiting %v; should be %d, %v, %v, %v", pick, pinned, dirty, way, e, c.Held(), c.Dirty(), d.Waiting(), wanted, stay, stayDirty, waits)
				}
				if len(waits) > 0 {
					wantRead(t, d, waits[0], full(byte(waits[0])))
				}
				for i, b := range blocks {
					if !slices.Contains(stay, b) {
						continue
					}
					if dirty>>i&1 == 1 {
						wantGet(t, c, b, full(byte(b)))
					} else {
						wantGet(t, c, b, full(byte(100+b)))
					}
				}
			}
		}
	}
}

// TestPicksAreUsedUp: how room is made, a pick is used up where all are pinned, and where the device refuses; by nothing that makes no room.
func TestPicksAreUsedUp(t *testing.T) {
	d := stood(t, 12)
	c := made(t, d, 3, 2, 1, 2, 1, 0)
	for _, b := range []int{1, 3, 5} {
		want(t, "Put", c.Put(b, full(byte(b))), api.OK)
	}
	noRoom := func() {
		t.Helper()
		wantNoGet(t, c, 12, api.ErrRange)
		want(t, "Put", c.Put(-1, full(1)), api.ErrRange)
		want(t, "Put", c.Put(7, nil), api.ErrArg)
		want(t, "Clean", c.Clean(7, full(7)), api.OK)
		want(t, "Pin", c.Pin(7), api.ErrNone)
		want(t, "Drop", c.Drop(7), api.ErrNone)
		want(t, "Out", c.Out([]int{7}), api.OK)
		for _, b := range c.Held() {
			if got, e := c.Get(b); e != api.OK || c.Put(b, got) != api.OK || c.Clean(b, got) != api.OK || c.Put(b, got) != api.OK {
				t.Error("a held block is refused:", b, e)
			}
		}
	}
	noRoom()
	for _, b := range []int{1, 3, 5} {
		want(t, "Pin", c.Pin(b), api.OK)
	}
	wantNoGet(t, c, 0, api.ErrFull) // the first pick, 2
	noRoom()
	for _, b := range []int{1, 3, 5} {
		want(t, "Unpin", c.Unpin(b), api.OK)
	}
	want(t, "Fuse", d.Fuse(0), api.OK)
	want(t, "Put", c.Put(0, full(1)), api.ErrDead) // the second one, 1
	noRoom()
	wantList(t, "Dirty", c.Dirty(), 1, 3, 5)
	want(t, "Clean", c.Clean(5, full(5)), api.OK)
	wantNoGet(t, c, 0, api.ErrDead) // the third one, 2: 5 is clean and goes, but 0 can't be read
	wantList(t, "Held", c.Held(), 1, 3)
	want(t, "Crash", d.Crash(nil), api.OK)
	wantGet(t, c, 0, full(100)) // there is room: none is used up
	noRoom()
	wantList(t, "Held", c.Held(), 0, 1, 3)
	wantGet(t, c, 6, full(106)) // the fourth one, 1
	wantList(t, "Held", c.Held(), 0, 3, 6)
	want(t, "Drop", c.Drop(6), api.OK)
	wantGet(t, c, 7, full(107)) // there is room
	want(t, "Put", c.Put(8, full(8)), api.OK)
	wantList(t, "Held", c.Held(), 3, 7, 8) // the fifth one, 0
	wantGet(t, c, 9, full(109))
	wantList(t, "Held", c.Held(), 7, 8, 9) // none is left: the first block goes
	wantGet(t, c, 10, full(110))
	wantList(t, "Held", c.Held(), 8, 9, 10)
}

// TestStaysDirty: how room is made, a block that could not be written is written when the device lives again.
func TestStaysDirty(t *testing.T) {
	for _, put := range []bool{false, true} {
		d := stood(t, 4)
		c := made(t, d, 1)
		want(t, "Put", c.Put(2, full(2)), api.OK)
		want(t, "Fuse", d.Fuse(0), api.OK)
		for range 3 {
			if put {
				want(t, "Put", c.Put(3, full(3)), api.ErrDead)
			} else {
				wantNoGet(t, c, 3, api.ErrDead)
			}
			wantList(t, "Held", c.Held(), 2)
			wantList(t, "Dirty", c.Dirty(), 2)
			wantGet(t, c, 2, full(2))
			if !d.Dead() || d.Writes() != 0 || len(d.Waiting()) != 0 {
				t.Error("the device:", d.Dead(), d.Writes(), d.Waiting())
			}
		}
		want(t, "Crash", d.Crash(nil), api.OK)
		wantRead(t, d, 2, full(102))
		wantGet(t, c, 3, full(103))
		wantRead(t, d, 2, full(2))
		wantList(t, "Held", c.Held(), 3)
		wantList(t, "Dirty", c.Dirty())
		wantGet(t, c, 2, full(2))
	}
}

// TestOut: P8.5, lists without elements, with blocks twice, with ones that are not held or not dirty, falling, and with one that is no block.
func TestOut(t *testing.T) {
	for _, x := range []struct {
		list   []int
		e      api.Errno
		writes []int
	}{
		{nil, api.OK, nil}, {[]int{}, api.OK, nil}, {[]int{4}, api.OK, []int{4}}, {[]int{4, 4, 4}, api.OK, []int{4}}, {[]int{7, 1, 4}, api.OK, []int{1, 4, 7}}, {[]int{1, 4, 7}, api.OK, []int{1, 4, 7}}, {[]int{7, 1, 7, 1}, api.OK, []int{1, 7}},
		{[]int{2}, api.OK, nil}, {[]int{5}, api.OK, nil}, {[]int{0, 1, 2, 3, 4, 5, 6, 7, 8, 9}, api.OK, []int{1, 4, 7}}, {[]int{9, 8, 7, 6, 5, 5}, api.OK, []int{7}}, {[]int{2, 5, 2}, api.OK, nil}, {[]int{0, 9}, api.OK, nil},
		{[]int{1, 4, 10}, api.ErrRange, nil}, {[]int{10, 1}, api.ErrRange, nil}, {[]int{1, -1, 4}, api.ErrRange, nil}, {[]int{7, math.MaxInt}, api.ErrRange, nil}, {[]int{1, math.MinInt}, api.ErrRange, nil}, {[]int{2, 5, 10}, api.ErrRange, nil}, {[]int{-1}, api.ErrRange, nil},
	} {
		for _, dead := range []bool{false, true} {
			d := stood(t, 10)
			c := made(t, d, 6)
			wantGet(t, c, 2, full(102))
			for _, b := range []int{7, 1, 4} {
				want(t, "Put", c.Put(b, full(byte(b))), api.OK)
			}
			want(t, "Pin", c.Pin(4), api.OK)
			wanted, writes := x.e, x.writes
			if dead {
				die(t, d)
				if len(writes) > 0 {
					wanted, writes = api.ErrDead, nil
				}
			}
			want(t, "Out", c.Out(x.list), wanted)
			var waits []int
			for _, b := range writes {
				waits = append(waits, b, 1)
			}
			wantList(t, "Waiting", d.Waiting(), waits...)
			wantList(t, "Held", c.Held(), 1, 2, 4, 7)
			wantList(t, "Dirty", c.Dirty(), slices.DeleteFunc([]int{1, 4, 7}, func(b int) bool { return slices.Contains(writes, b) })...)
			if d.Writes() != len(writes) {
				t.Errorf("Out(%v): %d writes", x.list, d.Writes())
			}
			for _, b := range []int{1, 4, 7} {
				wantGet(t, c, b, full(byte(b)))
			}
			for _, b := range writes {
				wantRead(t, d, b, full(byte(b)))
			}
			want(t, "Drop", c.Drop(4), api.ErrBusy)
		}
	}
}

// TestOutBurns: P8.5, Out and All on a device whose fuse ends in the midst: the least blocks are written, the others stay dirty, and go out behind a crash.
func TestOutBurns(t *testing.T) {
	dirty := []int{1, 2, 4, 6, 7, 9}
	for fuse := range 8 {
		for way := range 4 {
			d := stood(t, 12)
			c := made(t, d, 8)
			for _, b := range []int{7, 4, 9, 1, 6, 2} {
				want(t, "Put", c.Put(b, full(byte(b))), api.OK)
			}
			wantGet(t, c, 3, full(103))
			out := []func() api.Errno{
				c.All,
				func() api.Errno { return c.Out([]int{9, 7, 6, 4, 2, 1}) },
				func() api.Errno { return c.Out([]int{4, 3, 9, 1, 2, 2, 11, 7, 6, 4, 1}) },
				func() api.Errno { return c.Out([]int{0, 1, 2, 3, 4, 5, 6, 7, 8, 9, 10, 11}) },
			}[way]
			want(t, "Fuse", d.Fuse(fuse), api.OK)
			wanted := api.OK
			if fuse < 6 {
				wanted = api.ErrDead
			}
			want(t, "Out", out(), wanted)
			done := min(fuse, 6)
			var waits []int
			for _, b := range dirty[:done] {
				waits = append(waits, b, 1)
			}
			wantList(t, "Waiting", d.Waiting(), waits...)
			wantList(t, "Dirty", c.Dirty(), dirty[done:]...)
			wantList(t, "Held", c.Held(), 1, 2, 3, 4, 6, 7, 9)
			if d.Writes() != done || d.Dead() != (fuse < 6) {
				t.Error("the device:", d.Writes(), d.Dead())
			}
			want(t, "Out", out(), wanted)
			if fuse < 6 {
				want(t, "All", c.All(), api.ErrDead)
			}
			wantList(t, "Dirty", c.Dirty(), dirty[done:]...)
			// What is no longer dirty was lost by the crash: the cache can't know it.
			want(t, "Crash", d.Crash(nil), api.OK)
			want(t, "Out", out(), api.OK)
			wantList(t, "Dirty", c.Dirty())
			for i, b := range dirty {
				if i < done {
					wantRead(t, d, b, full(byte(100+b)))
				} else {
					wantRead(t, d, b, full(byte(b)))
				}
				wantGet(t, c, b, full(byte(b)))
			}
		}
	}
}

// TestAll: P8.5, nothing held, nothing dirty, some and all dirty, with pins; it is not a flush.
func TestAll(t *testing.T) {
	d := stood(t, 6)
	c := made(t, d, 4)
	want(t, "All", c.All(), api.OK)
	wantGet(t, c, 5, full(105))
	want(t, "All", c.All(), api.OK)
	if d.Writes() != 0 {
		t.Error("All wrote what is not dirty:", d.Writes())
	}
	for _, b := range []int{4, 0, 2} {
		want(t, "Put", c.Put(b, full(byte(b))), api.OK)
		want(t, "Pin", c.Pin(b), api.OK)
	}
	wantList(t, "Dirty", c.Dirty(), 0, 2, 4)
	want(t, "All", c.All(), api.OK)
	wantList(t, "Waiting", d.Waiting(), 0, 1, 2, 1, 4, 1)
	wantList(t, "Dirty", c.Dirty())
	wantList(t, "Held", c.Held(), 0, 2, 4, 5)
	want(t, "All", c.All(), api.OK)
	want(t, "Put", c.Put(2, full(9)), api.OK)
	want(t, "All", c.All(), api.OK)
	wantList(t, "Waiting", d.Waiting(), 0, 1, 2, 2, 4, 1)
	if d.Writes() != 4 {
		t.Error("Writes:", d.Writes())
	}
	die(t, d)
	want(t, "All", c.All(), api.OK)
}

// TestNil: what a nil cache answers, whatever it is asked; and one that New never made has no block.
func TestNil(t *testing.T) {
	var c *cache.Cache
	zero := new(cache.Cache)
	if len(c.Held()) != 0 || len(c.Dirty()) != 0 || len(zero.Held()) != 0 || len(zero.Dirty()) != 0 {
		t.Error("lists:", c.Held(), c.Dirty(), zero.Held(), zero.Dirty())
	}
	want(t, "All", c.All(), api.ErrArg)
	want(t, "Out", c.Out(nil), api.ErrArg)
	want(t, "All", zero.All(), api.OK)
	for _, b := range around(0) {
		for _, x := range []struct {
			c      *cache.Cache
			wanted api.Errno
		}{{c, api.ErrArg}, {zero, api.ErrRange}} {
			wantNoGet(t, x.c, b, x.wanted)
			want(t, "Pin", x.c.Pin(b), x.wanted)
			want(t, "Unpin", x.c.Unpin(b), x.wanted)
			want(t, "Drop", x.c.Drop(b), x.wanted)
			want(t, "Out", x.c.Out([]int{b}), x.wanted)
			for _, data := range [][]byte{nil, {}, full(1)} {
				want(t, "Put", x.c.Put(b, data), x.wanted)
				want(t, "Clean", x.c.Clean(b, data), x.wanted)
			}
		}
	}
}

// entry is a block that the model holds.
type entry struct {
	b     int
	data  string
	dirty bool
	pins  int
}

// model is a cache in the chapter's words, a rising row of entries, on a device of its own that is a twin of the cache's.
type model struct {
	d        *device.Device
	capacity int
	picks    []int
	row      []entry
}

func (m *model) at(b int) (int, bool) {
	return slices.BinarySearchFunc(m.row, b, func(x entry, b int) int { return x.b - b })
}

func (m *model) bad(b int) bool {
	return b < 0 || b >= m.d.Blocks()
}

// room answers what making room answers, whether a block goes or not.
func (m *model) room() api.Errno {
	if len(m.row) < m.capacity {
		return api.OK
	}
	pick := 0
	if len(m.picks) > 0 {
		pick, m.picks = m.picks[0], m.picks[1:]
	}
	goes := -1
	for i, x := range m.row {
		if x.pins > 0 {
			continue
		}
		goes = i
		if pick <= 0 {
			break
		}
		pick--
	}
	if goes < 0 {
		return api.ErrFull
	}
	if x := m.row[goes]; x.dirty {
		if e := m.d.Write(x.b, []byte(x.data)); e != api.OK {
			return e
		}
	}
	m.row = slices.Delete(m.row, goes, goes+1)
	return api.OK
}

func (m *model) get(b int) (string, api.Errno) {
	if m.bad(b) {
		return "", api.ErrRange
	}
	if i, held := m.at(b); held {
		return m.row[i].data, api.OK
	}
	if e := m.room(); e != api.OK {
		return "", e
	}
	data, e := m.d.Read(b)
	if e != api.OK {
		return "", e
	}
	i, _ := m.at(b)
	m.row = slices.Insert(m.row, i, entry{b: b, data: string(data)})
	return string(data), api.OK
}

func (m *model) put(b int, data []byte) api.Errno {
	switch {
	case m.bad(b):
		return api.ErrRange
	case len(data) != m.d.Block():
		return api.ErrArg
	}
	if _, held := m.at(b); !held {
		if e := m.room(); e != api.OK {
			return e
		}
		i, _ := m.at(b)
		m.row = slices.Insert(m.row, i, entry{b: b})
	}
	i, _ := m.at(b)
	m.row[i].data, m.row[i].dirty = string(data), true
	return api.OK
}

func (m *model) clean(b int, data []byte) api.Errno {
	switch {
	case m.bad(b):
		return api.ErrRange
	case len(data) != m.d.Block():
		return api.ErrArg
	}
	if i, held := m.at(b); held {
		m.row[i].data, m.row[i].dirty = string(data), false
	}
	return api.OK
}

// pin pins once more, or, if n is -1, once less.
func (m *model) pin(b, n int) api.Errno {
	i, held := m.at(b)
	switch {
	case m.bad(b):
		return api.ErrRange
	case !held, m.row[i].pins+n < 0:
		return api.ErrNone
	}
	m.row[i].pins += n
	return api.OK
}

func (m *model) drop(b int) api.Errno {
	i, held := m.at(b)
	switch {
	case m.bad(b):
		return api.ErrRange
	case !held:
		return api.ErrNone
	case m.row[i].pins > 0:
		return api.ErrBusy
	}
	m.row = slices.Delete(m.row, i, i+1)
	return api.OK
}

func (m *model) out(list []int) api.Errno {
	if slices.ContainsFunc(list, m.bad) {
		return api.ErrRange
	}
	for i, x := range m.row {
		if !x.dirty || !slices.Contains(list, x.b) {
			continue
		}
		if e := m.d.Write(x.b, []byte(x.data)); e != api.OK {
			return e
		}
		m.row[i].dirty = false
	}
	return api.OK
}

func (m *model) blocks(wanted func(entry) bool) []int {
	var list []int
	for _, x := range m.row {
		if wanted(x) {
			list = append(list, x.b)
		}
	}
	return list
}

func (m *model) held() []int  { return m.blocks(func(entry) bool { return true }) }
func (m *model) dirty() []int { return m.blocks(func(x entry) bool { return x.dirty }) }

// call is a call of a cache or of the device beneath it, by its name.
type call struct {
	name string
	n    int
	data []byte
	list []int
}

// pair is a cache on a device, and the model of it.
type pair struct {
	d *device.Device
	c *cache.Cache
	m *model
}

func newPair(t *testing.T, blocks, capacity int, picks ...int) *pair {
	t.Helper()
	d := stood(t, blocks)
	return &pair{d, made(t, d, capacity, picks...), &model{d: stood(t, blocks), capacity: capacity, picks: slices.Clone(picks)}}
}

// run answers what the cache and the model answer to a call; of Get the bytes too.
func (p *pair) run(x call) (got, wanted api.Errno) {
	c, m := p.c, p.m
	switch x.name {
	case "Get":
		b, e := c.Get(x.n)
		s, f := m.get(x.n)
		if string(b) != s {
			return -1, f
		}
		return e, f
	case "Put":
		return c.Put(x.n, x.data), m.put(x.n, x.data)
	case "Clean":
		return c.Clean(x.n, x.data), m.clean(x.n, x.data)
	case "Pin":
		return c.Pin(x.n), m.pin(x.n, 1)
	case "Unpin":
		return c.Unpin(x.n), m.pin(x.n, -1)
	case "Drop":
		return c.Drop(x.n), m.drop(x.n)
	case "Out":
		return c.Out(x.list), m.out(x.list)
	case "All":
		return c.All(), m.out(m.dirty())
	}
	return beneath(p.d, x), beneath(m.d, x)
}

// beneath calls a device past its cache.
func beneath(d *device.Device, x call) api.Errno {
	switch x.name {
	case "Fuse":
		return d.Fuse(x.n)
	case "Crash":
		return d.Crash(x.list)
	case "Flush":
		return d.Flush()
	case "Write":
		return d.Write(x.n, x.data)
	}
	return d.Load(x.n, x.data)
}

// same holds all that a cache and its device tell without being changed against the model.
func (p *pair) same(t *testing.T, script any) {
	t.Helper()
	if got := p.c.Held(); !slices.Equal(got, p.m.held()) {
		t.Fatalf("behind %v: Held %v, should be %v", script, got, p.m.held())
	}
	if got := p.c.Dirty(); !slices.Equal(got, p.m.dirty()) {
		t.Fatalf("behind %v: Dirty %v, should be %v", script, got, p.m.dirty())
	}
	for _, x := range p.m.row {
		if got, e := p.c.Get(x.b); e != api.OK || string(got) != x.data {
			t.Fatalf("behind %v: Get(%d) %v, %v, should be %v", script, x.b, got, e, []byte(x.data))
		}
	}
	d, twin := p.d, p.m.d
	if d.Dead() != twin.Dead() || d.Writes() != twin.Writes() || !slices.Equal(d.Waiting(), twin.Waiting()) {
		t.Fatalf("behind %v: dead %v, %d writes, waiting %v; should be %v, %d, %v", script, d.Dead(), d.Writes(), d.Waiting(), twin.Dead(), twin.Writes(), twin.Waiting())
	}
	for b := range twin.Blocks() {
		got, e := d.Read(b)
		wanted, f := twin.Read(b)
		if e != f || !bytes.Equal(got, wanted) {
			t.Fatalf("behind %v: Read(%d) %v, %v, should be %v, %v", script, b, got, e, wanted, f)
		}
	}
}

// useUp tells the rest, by using the pair up: how often each block is pinned, which picks are left, and which writes wait.
func (p *pair) useUp(t *testing.T, script any) {
	t.Helper()
	ask := func(name string, n int, list []int) api.Errno {
		got, wanted := p.run(call{name: name, n: n, list: list})
		if got != wanted {
			t.Fatalf("behind %v: %s(%d, %v): %d, should be %d", script, name, n, list, got, wanted)
		}
		return got
	}
	waits := p.d.Waiting()
	picks := make([]int, 0, len(waits))
	for i := 0; i < len(waits); i += 2 {
		picks = append(picks, (waits[i+1]+i)%(waits[i+1]+1))
	}
	ask("Crash", 0, picks)
	p.same(t, script)
	for _, b := range p.m.held() {
		for ask("Unpin", b, nil) == api.OK {
		}
	}
	for range len(p.m.picks) + 1 {
		for b := range p.d.Blocks() {
			ask("Get", b, nil)
			p.same(t, script)
		}
	}
	ask("All", 0, nil)
	p.same(t, script)
}

// TestAllScripts: P8.2 to P8.5, all scripts of few calls on a device of three blocks, held against the model behind each of them.
func TestAllScripts(t *testing.T) {
	calls := []call{
		{name: "Get", n: 0}, {name: "Get", n: 2}, {name: "Put", n: 0, data: full(1)}, {name: "Put", n: 1, data: full(2)}, {name: "Put", n: 2, data: full(3)},
		{name: "Pin", n: 0}, {name: "Pin", n: 1}, {name: "Unpin", n: 1}, {name: "Drop", n: 0}, {name: "Drop", n: 1}, {name: "Clean", n: 1, data: full(4)},
		{name: "Out", list: []int{2, 1}}, {name: "All"}, {name: "Fuse", n: 0}, {name: "Fuse", n: 1}, {name: "Crash", list: []int{1}},
	}
	for _, capacity := range []int{1, 2} {
		var script []int
		var follow func(left int)
		follow = func(left int) {
			p := newPair(t, 3, capacity, 1, 0)
			for _, i := range script {
				if got, wanted := p.run(calls[i]); got != wanted {
					t.Fatalf("capacity %d, script %v: %d, should be %d", capacity, script, got, wanted)
				}
			}
			p.same(t, script)
			if left == 0 {
				return
			}
			for i := range calls {
				script = append(script, i)
				follow(left - 1)
				script = script[:len(script)-1]
			}
		}
		follow(4)
	}
}

// dice are numbers that are the same in each run.
type dice uint64

func (x *dice) below(n int) int {
	*x = *x*6364136223846793005 + 1442695040888963407
	return int(uint64(*x) >> 33 % uint64(n))
}

// picks answers a list of picks, most of them small.
func (x *dice) picks(most int) []int {
	list := make([]int, x.below(most+1))
	for i := range list {
		list[i] = x.below(6) - 1
		if x.below(15) == 0 {
			list[i] = []int{math.MinInt, math.MaxInt, 511, 512, -2}[x.below(5)]
		}
	}
	return list
}

// blocks answers a list of blocks, some twice, seldom with one that is none.
func (x *dice) blocks(blocks int) []int {
	list := make([]int, x.below(2*blocks))
	for i := range list {
		list[i] = x.below(blocks)
	}
	if len(list) > 0 && x.below(8) == 0 {
		list[x.below(len(list))] = []int{-1, blocks, math.MinInt, math.MaxInt}[x.below(4)]
	}
	return list
}

// nextCall makes a call of a script: what is refused is rare, a device seldom dies, and lives soon again.
func (x *dice) nextCall(blocks, mark int) call {
	b := x.below(blocks)
	if x.below(25) == 0 {
		b = []int{-1, blocks, math.MinInt, math.MaxInt}[x.below(4)]
	}
	data := marked(64, mark)
	switch x.below(40) {
	case 0:
		data = data[1:]
	case 1:
		data = append(data, 0)
	case 2:
		data = nil
	}
	switch k := x.below(100); {
	case k < 25:
		return call{name: "Get", n: b}
	case k < 50:
		return call{name: "Put", n: b, data: data}
	case k < 58:
		return call{name: "Pin", n: b}
	case k < 68:
		return call{name: "Unpin", n: b}
	case k < 74:
		return call{name: "Drop", n: b}
	case k < 79:
		return call{name: "Clean", n: b, data: data}
	case k < 85:
		return call{name: "Out", list: x.blocks(blocks)}
	case k < 88:
		return call{name: "All"}
	case k < 92:
		return call{name: "Fuse", n: []int{0, 1, 2, 3, 5, 8, -1, math.MaxInt}[x.below(8)]}
	case k < 97:
		return call{name: "Crash", list: x.picks(blocks)}
	case k < 98:
		return call{name: "Flush"}
	case k < 99:
		return call{name: "Write", n: b, data: data}
	}
	return call{name: "Load", n: b, data: data}
}

// TestLongScripts: P8.2 to P8.5, long scripts of all calls, mixed with fuses and crashes of the device, with small capacities.
func TestLongScripts(t *testing.T) {
	for seed := range 150 {
		x := dice(seed)
		x.below(2)
		blocks, capacity := 1+x.below(9), 1+x.below(6)
		p := newPair(t, blocks, capacity, x.picks(60)...)
		for i := range 500 {
			c := x.nextCall(blocks, i+1)
			if got, wanted := p.run(c); got != wanted {
				t.Fatalf("seed %d, call %d, %s(%d, %d bytes, %v): %d, should be %d", seed, i, c.name, c.n, len(c.data), c.list, got, wanted)
			}
			p.same(t, i)
		}
		p.useUp(t, seed)
	}
}

// TestWhatFollows: whatever the capacity and the picks, Get answers what was put last, and what is on the device, where nothing was put; All then leaves the device so.
func TestWhatFollows(t *testing.T) {
	for seed := range 60 {
		for _, capacity := range []int{1, 2, 3, 5, 8, 12, 13, 512} {
			x := dice(3000 + seed)
			d := stood(t, 12)
			c := made(t, d, capacity, x.picks(150)...)
			var last [12][]byte
			for b := range last {
				last[b] = full(byte(100 + b))
			}
			pinned := -1
			for i := range 300 {
				b := x.below(12)
				switch k := x.below(10); {
				case k < 4:
					last[b] = marked(64, i+1)
					want(t, "Put", c.Put(b, last[b]), api.OK)
				case k < 8:
					wantGet(t, c, b, last[b])
				case k == 8:
					want(t, "Out", c.Out([]int{b, x.below(12)}), api.OK)
				case pinned >= 0:
					want(t, "Unpin", c.Unpin(pinned), api.OK)
					pinned = -1
				case capacity > 1:
					wantGet(t, c, b, last[b])
					want(t, "Pin", c.Pin(b), api.OK)
					pinned = b
				}
			}
			for b := range last {
				wantGet(t, c, b, last[b])
			}
			want(t, "All", c.All(), api.OK)
			for b := range last {
				wantRead(t, d, b, last[b])
			}
			if t.Failed() {
				t.Fatal("seed, capacity:", seed, capacity)
			}
		}
	}
}

// refuse lets a cache refuse calls that may change nothing, and no pick is used up by them.
func refuse(t *testing.T, d *device.Device, c *cache.Cache) {
	t.Helper()
	held := c.Held()
	for _, b := range []int{-1, d.Blocks(), math.MinInt, math.MaxInt} {
		wantNoGet(t, c, b, api.ErrRange)
		want(t, "Put", c.Put(b, full(77)), api.ErrRange)
		want(t, "Clean", c.Clean(b, full(77)), api.ErrRange)
		want(t, "Pin", c.Pin(b), api.ErrRange)
		want(t, "Unpin", c.Unpin(b), api.ErrRange)
		want(t, "Drop", c.Drop(b), api.ErrRange)
		want(t, "Out", c.Out(append(slices.Clone(held), b)), api.ErrRange)
	}
	for b := range d.Blocks() {
		want(t, "Put", c.Put(b, full(77)[1:]), api.ErrArg)
		want(t, "Put", c.Put(b, append(full(77), 77)), api.ErrArg)
		want(t, "Clean", c.Clean(b, nil), api.ErrArg)
		if !slices.Contains(held, b) {
			want(t, "Pin", c.Pin(b), api.ErrNone)
			want(t, "Unpin", c.Unpin(b), api.ErrNone)
			want(t, "Drop", c.Drop(b), api.ErrNone)
		} else if c.Unpin(b) == api.OK {
			want(t, "Pin", c.Pin(b), api.OK)
			want(t, "Drop", c.Drop(b), api.ErrBusy)
		}
	}
	if d.Dead() && len(c.Dirty()) > 0 {
		want(t, "All", c.All(), api.ErrDead)
		want(t, "Out", c.Out(c.Dirty()[:1]), api.ErrDead)
	}
}

// TestRefused: R6, a cache that refuses calls between those of a script tells what one tells that is not asked them, to the last pick, pin and write; so caches that are not made leave nothing behind.
func TestRefused(t *testing.T) {
	for seed := range 80 {
		x := dice(500 + seed)
		blocks := 2 + x.below(5)
		p := newPair(t, blocks, 1+x.below(4), x.picks(20)...)
		for i := range 1 + seed {
			c := x.nextCall(blocks, i+1)
			refuse(t, p.d, p.c)
			cache.New(p.d, 0, []int{1})
			cache.New(p.d, 513, nil)
			(*cache.Cache)(nil).All()
			if got, wanted := p.run(c); got != wanted {
				t.Fatalf("seed %d, call %d, %s: %d, should be %d", seed, i, c.name, got, wanted)
			}
			refuse(t, p.d, p.c)
			p.same(t, i)
		}
		p.useUp(t, seed)
		if t.Failed() {
			t.Fatal("seed:", seed)
		}
	}
}

// room is a list with others in front of and behind it, which no call may read or change.
type room[T byte | int] struct {
	all, list, kept []T
}

func newRoom[T byte | int](fill T, list ...T) *room[T] {
	all := slices.Repeat([]T{fill}, len(list)+200)
	copy(all[100:], list)
	return &room[T]{all: all, list: all[100 : 100+len(list)], kept: slices.Clone(all)}
}

func (r *room[T]) check(t *testing.T, call string) {
	t.Helper()
	if !slices.Equal(r.all, r.kept) {
		t.Errorf("%s changed what it was handed", call)
	}
}

// turnOver writes over a list and the room behind it.
func turnOver[T byte | int](list []T) {
	list = list[:cap(list)]
	for i := range list {
		list[i] = ^list[i]
	}
}

// TestPicksApart: R4, picks are as they were, the room around them too, what stands there does not matter, and they are kept by their values alone.
func TestPicksApart(t *testing.T) {
	for _, fill := range []int{-1, 0, 1, 2, math.MaxInt} {
		d := stood(t, 8)
		picks := newRoom(fill, 1, 2)
		c, e := cache.New(d, 3, picks.list)
		want(t, "New", e, api.OK)
		picks.check(t, "New")
		turnOver(picks.all)
		kept := slices.Clone(picks.all)
		for _, b := range []int{0, 2, 4} {
			want(t, "Put", c.Put(b, full(byte(b))), api.OK)
		}
		for i, b := range []int{6, 7, 1, 3} {
			wantGet(t, c, b, full(byte(100+b)))
			wantList(t, "Held", c.Held(), [][]int{{0, 4, 6}, {0, 4, 7}, {1, 4, 7}, {3, 4, 7}}[i]...)
		}
		if !slices.Equal(picks.all, kept) {
			t.Error("what was handed in is changed later")
		}
	}
	// One list for two caches: what the first one uses up is there for the second.
	d, picks := stood(t, 4), []int{1, 0}
	one, two := made(t, d, 2, picks...), made(t, d, 2, picks...)
	for _, c := range []*cache.Cache{one, two} {
		for _, b := range []int{0, 1, 2, 3} {
			wantGet(t, c, b, full(byte(100+b)))
		}
		wantList(t, "Held", c.Held(), 2, 3)
	}
}

// TestBytesApart: R4, bytes that are put and told by Clean are as they were, the room around them too, and are copied: into the cache, and from there to the device.
func TestBytesApart(t *testing.T) {
	for _, fill := range []byte{0, 1, 255} {
		d := stood(t, 6)
		c := made(t, d, 2)
		first, second, told := newRoom(fill, marked(64, 1)...), newRoom(fill, marked(64, 2)...), newRoom(fill, marked(64, 3)...)
		want(t, "Put", c.Put(0, first.list), api.OK)
		want(t, "Put", c.Put(1, second.list), api.OK)
		want(t, "Put", c.Put(1, told.list[:63]), api.ErrArg)
		want(t, "Out", c.Out([]int{1}), api.OK)
		want(t, "Clean", c.Clean(1, told.list), api.OK)
		want(t, "Clean", c.Clean(1, told.list[1:]), api.ErrArg)
		want(t, "Clean", c.Clean(2, told.list), api.OK)
		first.check(t, "Put")
		second.check(t, "Put")
		told.check(t, "Clean")
		turnOver(first.all)
		turnOver(second.all)
		turnOver(told.all)
		wantGet(t, c, 0, marked(64, 1))
		wantGet(t, c, 1, marked(64, 3))
		wantRead(t, d, 1, marked(64, 2))
		// Room is made by writing 0, and it comes back from the device.
		wantGet(t, c, 2, full(102))
		wantRead(t, d, 0, marked(64, 1))
		wantGet(t, c, 0, marked(64, 1))
		// Bytes that two blocks and two calls share are two.
		want(t, "Put", c.Put(3, first.list), api.OK)
		want(t, "Put", c.Put(4, first.list), api.OK)
		got, _ := c.Get(3)
		turnOver(got)
		wantGet(t, c, 4, first.list)
		wantGet(t, c, 3, first.list)
	}
}

// TestListsApart: R4, a list that is handed to Out is as it was, in its order, and the room around it is not read.
func TestListsApart(t *testing.T) {
	for _, fill := range []int{math.MinInt, -1, 2, 5, 6, math.MaxInt} {
		d := stood(t, 6)
		c := made(t, d, 6)
		for _, b := range []int{5, 4, 3, 2} {
			want(t, "Put", c.Put(b, full(byte(b))), api.OK)
		}
		list := newRoom(fill, 4, 0, 3, 4)
		want(t, "Out", c.Out(list.list), api.OK)
		list.check(t, "Out")
		want(t, "Out", c.Out(list.list[:0]), api.OK)
		list.check(t, "Out")
		wantList(t, "Dirty", c.Dirty(), 2, 5)
		wantList(t, "Waiting", d.Waiting(), 3, 1, 4, 1)
	}
}

// TestAnswersApart: R4, what was answered stays as it is when other answers are written over, the room behind them too, and so do the cache and the device; a later call changes no earlier answer.
func TestAnswersApart(t *testing.T) {
	p := newPair(t, 4, 2, 1, 0, 1)
	script := []call{
		{name: "Get", n: 0}, {name: "Put", n: 2, data: marked(64, 1)}, {name: "Get", n: 2}, {name: "Get", n: 1}, {name: "Put", n: 1, data: marked(64, 2)}, {name: "Get", n: 2},
		{name: "Pin", n: 1}, {name: "Clean", n: 1, data: marked(64, 3)}, {name: "Out", list: []int{1, 2}}, {name: "Put", n: 3, data: marked(64, 4)}, {name: "All"}, {name: "Unpin", n: 1},
		{name: "Get", n: 0}, {name: "Crash", list: []int{1, 1}}, {name: "Drop", n: 0}, {name: "Get", n: 0}, {name: "Put", n: 0, data: marked(64, 5)}, {name: "Get", n: 3},
	}
	var answers, kept [][]byte
	var lists, keptLists [][]int
	for i, x := range script {
		if got, wanted := p.run(x); got != wanted {
			t.Fatal("call:", i, got, wanted)
		}
		for _, ask := range []func() []int{p.c.Held, p.c.Dirty} {
			one, two := ask(), ask()
			turnOver(one)
			lists, keptLists = append(lists, two), append(keptLists, slices.Clone(two))
		}
		for _, b := range p.m.held() {
			one, _ := p.c.Get(b)
			two, _ := p.c.Get(b)
			turnOver(one)
			answers, kept = append(answers, two), append(kept, bytes.Clone(two))
		}
		p.same(t, i)
	}
	for i := range lists {
		if !slices.Equal(lists[i], keptLists[i]) {
			t.Error("a list was changed later:", i)
		}
		_ = append(lists[i], 1, 2, 3)
		turnOver(lists[i])
	}
	for i := range answers {
		if !bytes.Equal(answers[i], kept[i]) {
			t.Error("an answer was changed later:", i)
		}
		_ = append(answers[i], 1, 2, 3)
		turnOver(answers[i])
	}
	p.same(t, "all answers are written over")
	p.useUp(t, "all answers are written over")
}

// TestFirstAnswer: R4, the answer of a Get that reads the device is written over: what is held is as it was.
func TestFirstAnswer(t *testing.T) {
	d := stood(t, 2)
	c := made(t, d, 1)
	got, _ := c.Get(1)
	turnOver(got)
	wantGet(t, c, 1, full(101))
	wantRead(t, d, 1, full(101))
	read, _ := d.Read(1)
	turnOver(read)
	wantGet(t, c, 1, full(101))
}

// TestManyCaches: R5, caches on devices of their own, whose calls go in turns, tell what each would tell alone.
func TestManyCaches(t *testing.T) {
	x := dice(77)
	var all [4]*pair
	for i := range all {
		all[i] = newPair(t, 3+i, 1+i, x.picks(40)...)
	}
	for i := range 2000 {
		k := x.below(4)
		c := x.nextCall(3+k, i)
		if got, wanted := all[k].run(c); got != wanted {
			t.Fatal("call:", i, c.name, got, wanted)
		}
		for _, p := range all {
			p.same(t, i)
		}
	}
	for i, p := range all {
		p.useUp(t, i)
	}
}

// TestOneDevice: R5, two caches have nothing in common but the device that both were given.
func TestOneDevice(t *testing.T) {
	x := dice(78)
	one, two := newPair(t, 6, 2, x.picks(200)...), newPair(t, 6, 3, x.picks(200)...)
	two.d, two.m.d = one.d, one.m.d
	two.c = made(t, one.d, 3, two.m.picks...)
	for i := range 3000 {
		p := []*pair{one, two}[x.below(2)]
		c := x.nextCall(6, i)
		if got, wanted := p.run(c); got != wanted {
			t.Fatal("call:", i, c.name, got, wanted)
		}
		one.same(t, i)
		two.same(t, i)
	}
	d := stood(t, 2)
	first, second := made(t, d, 2), made(t, d, 2)
	want(t, "Put", first.Put(0, full(1)), api.OK)
	want(t, "Pin", first.Pin(0), api.OK)
	wantGet(t, second, 0, full(100))
	wantList(t, "Dirty", second.Dirty())
	want(t, "Unpin", second.Unpin(0), api.ErrNone)
	want(t, "Drop", second.Drop(0), api.OK)
	want(t, "All", second.All(), api.OK)
	wantGet(t, second, 0, full(100))
	want(t, "All", first.All(), api.OK)
	wantGet(t, second, 0, full(100))
	want(t, "Drop", second.Drop(0), api.OK)
	wantGet(t, second, 0, full(1))
}
