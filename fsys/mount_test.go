package fsys_test

import (
	"math"
	"slices"
	"testing"

	"skerry/api"
	"skerry/codec"
	"skerry/device"
	"skerry/fsys"
	"skerry/wal"
)

// refused holds that a Mount answers this error, and nothing beside.
func refused(t *testing.T, d *device.Device, capacity int, picks []int, wanted api.Errno) {
	t.Helper()
	untouched(t, d, "Mount", func() {
		if s, e := fsys.Mount(d, capacity, picks); s != nil || e != wanted {
			t.Errorf("Mount with capacity %d: %v %d, should be %d", capacity, s, e, wanted)
		}
	})
}

var noCapacities = []int{0, -1, 513, math.MinInt, math.MaxInt}

// TestMountRefuses: P19.2, the errors of Mount, and their order.
func TestMountRefuses(t *testing.T) {
	p := planned(t, 64, 120, 12, 40)
	zero, _ := device.New(64, 120)
	good := formatted(t, p)
	for _, capacity := range noCapacities {
		refused(t, nil, capacity, nil, api.ErrArg)
		refused(t, zero, capacity, []int{1}, api.ErrArg)
		refused(t, good, capacity, nil, api.ErrArg)
	}
	refused(t, nil, 5, nil, api.ErrArg)
	refused(t, zero, 1, nil, api.ErrCorrupt)
	refused(t, zero, 512, []int{3}, api.ErrCorrupt)
	// A dead device tells of nothing, be it sound or not.
	for _, d := range []*device.Device{zero, good} {
		want(t, "Fuse", d.Fuse(0), api.OK)
		want(t, "Flush", d.Flush(), api.ErrDead)
		refused(t, d, 5, nil, api.ErrDead)
		for _, capacity := range noCapacities {
			refused(t, d, capacity, nil, api.ErrArg)
		}
		want(t, "Crash", d.Crash(nil), api.OK)
	}
	// Mount of a device that would die of the next write reads it all the same.
	want(t, "Fuse", zero.Fuse(0), api.OK)
	refused(t, zero, 5, nil, api.ErrCorrupt)
	for _, capacity := range []int{1, 2, 511, 512} {
		mount(t, good, capacity)
	}
}

// TestMountUnsound: P19.2, a device on which one byte is turned is told to be corrupt, or has its tree or a like one; nothing is written where it is corrupt.
func TestMountUnsound(t *testing.T) {
	p := planned(t, 64, 120, 12, 40)
	w := begun(t, p, 5, nil, "create /a", "open /a", "write 0 600 xyz", "mkdir /d", "create /d/b", "link /a /d/a", "sync", "rename /d/b /c", "write 0 10 more", "fsync 0")
	image := imageOf(t, w.d)
	corrupt := 0
	for b, data := range image {
		for i := range data {
			turned := slices.Clone(data)
			turned[i] ^= 1 << (i % 8)
			want(t, "Load", w.d.Load(b, turned), api.OK)
			s, e := (*fsys.FS)(nil), api.OK
			writes := w.d.Writes()
			if s, e = fsys.Mount(w.d, 3, nil); e == api.OK {
				told(t, s)
				// The log is empty now.
				for b, data := range image {
					want(t, "Load", w.d.Load(b, data), api.OK)
				}
				continue
			}
			if corrupt++; s != nil || e != api.ErrCorrupt || w.d.Writes() != writes {
				t.Errorf("byte %d of block %d turned: %v %d", i, b, s, e)
			}
			want(t, "Load", w.d.Load(b, data), api.OK)
		}
	}
	if corrupt < 200 {
		t.Errorf("only %d turned bytes are told", corrupt)
	}
}

// pendingIn answers what is pending in the log of a device.
func pendingIn(t *testing.T, d *device.Device, p api.Plan) []api.Write {
	t.Helper()
	l, e := wal.Open(d, p)
	want(t, "wal.Open", e, api.OK)
	return l.Pending()
}

// TestMountPending: P19.2, what is pending in the log is applied, and the tree is that of the image; no handle is open.
func TestMountPending(t *testing.T) {
	p := planned(t, 64, 120, 12, 40)
	w := begun(t, p, 5, nil, "create /a", "open /a", "write 0 600 xyz", "mkdir /d", "create /d/b", "link /a /d/a", "fsync 0")
	want(t, "Crash", w.d.Crash(nil), api.OK)
	if len(pendingIn(t, w.d, p)) == 0 {
		t.Fatal("nothing is pending")
	}
	w.remount(3, 1, 2)
	if list := pendingIn(t, w.d, p); len(list) > 0 {
		t.Errorf("still pending: %v", list)
	}
	for f := range api.MaxOpen {
		w.want("close "+string(rune('0'+f%10)), api.ErrHandle)
	}
	w.holds("Mount")
	w.arrived("Mount")
	w.remount(3)
	w.ok("open /d/a", "write 0 600 abc", "unlink /d/b")
	w.synced("Mount")
}

// TestMountWrites: P19.2, of a device on which nothing is pending and nothing waits, Mount writes nothing.
func TestMountWrites(t *testing.T) {
	p := planned(t, 64, 120, 12, 40)
	w := begun(t, p, 5, nil, "create /a", "open /a", "write 0 0 xyz", "sync")
	untouched(t, w.d, "Mount", func() { w.remount(4) })
	w.holds("Mount")
}

// TestMountAgain: P19.2 and P19.5, a device that is mounted anew without a crash: what is read of it then has arrived behind Mount, be something pending or not.
func TestMountAgain(t *testing.T) {
	p := planned(t, 64, 120, 12, 40)
	for _, line := range []string{"sync", "fsync 0"} {
		for _, more := range []string{"write 0 0 abc", "write 0 64 abc", "truncate 0 30"} {
			w := begun(t, p, 1, nil, "create /a", "open /a", "write 0 0 "+text(3, 200), line, more, "stat /a", "stat /a")
			before := dumped(t, w.d)
			s := mount(t, w.d, 4)
			if got := told(t, s); !sameNodes(got, before) {
				t.Errorf("behind Mount:%s\nshould be%s", show(got), show(before))
			}
			if list := w.d.Waiting(); len(list) > 0 {
				t.Errorf("waits behind Mount: %v", list)
			}
			want(t, "Crash", w.d.Crash(nil), api.OK)
			if got := dumped(t, w.d); !sameNodes(got, before) {
				t.Errorf("behind Mount and a crash:%s\nshould be%s", show(got), show(before))
			}
		}
	}
}

// TestMountCut: P19.2 and P19.5, a device that dies within Mount, at each write, with picks of every kind, again and again: its error, and the tree stays.
func TestMountCut(t *testing.T) {
	p := planned(t, 64, 160, 12, 60)
	for mode := range modes {
		x := dice(mode)
		for step := range 6 {
			w := begun(t, p, 5, nil, "create /a", "open /a", "write 0 600 xyz", "mkdir /d", "create /d/b", "fsync 0", "link /a /d/a", "rename /d/b /c", "write 0 3000 z", "fsync 0", "unlink /c", "fsync 0")
			want(t, "Crash", w.d.Crash(crashPicks(&x, mode)), api.OK)
			cuts := 0
			for n := step; ; n += step + 1 {
				want(t, "Fuse", w.d.Fuse(n), api.OK)
				s, e := fsys.Mount(w.d, 1+n%5, nil)
				if e == api.OK {
					break
				}
				if cuts++; s != nil || e != api.ErrDead {
					t.Fatalf("Mount: %v %d", s, e)
				}
				w.arrivedWith("Mount that was cut off", crashPicks(&x, mode))
			}
			if cuts == 0 && step < 4 {
				t.Error("no Mount was cut off")
			}
			w.arrivedWith("Mount", nil)
			w.remount(3)
			w.holds("Mount")
		}
	}
}

// TestMountCache: P19.2, the cache has the capacity and the picks that are handed in: they tell what is written early.
func TestMountCache(t *testing.T) {
	p := planned(t, 64, 120, 12, 40)
	waits := func(capacity int, picks ...int) []int {
		w := begun(t, p, capacity, picks, "create /a", "open /a", "write 0 0 "+text(1, 1000))
		return w.d.Waiting()
	}
	if list := waits(512); len(list) > 0 {
		t.Errorf("a cache of 512 blocks has written %v", list)
	}
	// 17 blocks were written, 16 of them put into the file's data region.
	if list := waits(1); len(list) < 2*15 {
		t.Errorf("a cache of one block has written %v", list)
	}
	first, last := waits(10), waits(10, slices.Repeat([]int{1 << 40}, 100)...)
	if len(first) == 0 || len(last) == 0 || slices.Equal(first, last) {
		t.Errorf("the first blocks go: %v; the last ones: %v", first, last)
	}
	if first[0] >= last[0] && first[len(first)-2] >= last[len(last)-2] {
		t.Errorf("the first blocks go: %v; the last ones: %v", first, last)
	}
}

// TestMountHeader: P19.2, headers of the log that are not sound, and ones that are, where nothing is in use.
func TestMountHeader(t *testing.T) {
	p := planned(t, 64, 120, 12, 40)
	for _, x := range []struct {
		h      api.Header
		wanted api.Errno
	}{
		{api.Header{Seq: 1}, api.OK}, {api.Header{Seq: 900, Tail: 39}, api.OK}, {api.Header{Seq: 1 << 20, Tail: 40}, api.ErrCorrupt}, {api.Header{Seq: 2, Used: 3}, api.ErrCorrupt}, {api.Header{Seq: 2, Used: 41}, api.ErrCorrupt},
	} {
		w := begun(t, p, 5, nil, "create /a", "sync")
		data, e := codec.Header(x.h, 64)
		want(t, "Header", e, api.OK)
		want(t, "Load", w.d.Load(1, data), api.OK)
		if x.wanted != api.OK {
			refused(t, w.d, 5, nil, x.wanted)
			continue
		}
		w.remount(5)
		w.ok("create /b", "open /a", "fsync 0", "write 0 0 x", "fsync 0")
		w.synced(x.h)
	}
}
