package alloc_test

import (
	"bytes"
	"math"
	"slices"
	"testing"

	"skerry/alloc"
	"skerry/api"
	"skerry/group"
)

// refused lets every call of an Alloc answer that error, whatever number it is handed, with all else zero.
func refused(t *testing.T, a *alloc.Alloc, o *group.Op, blocks, inodes []int, wanted api.Errno) {
	t.Helper()
	b, e := a.Block(o)
	wantNumber(t, "Block", b, e, 0, wanted)
	i, e := a.Inode(o)
	wantNumber(t, "Inode", i, e, 0, wanted)
	n, e := a.Free(o)
	wantNumber(t, "Free", n, e, 0, wanted)
	for _, b := range blocks {
		want(t, "FreeBlock", a.FreeBlock(o, b), wanted)
	}
	for _, i := range inodes {
		want(t, "FreeInode", a.FreeInode(o, i), wanted)
	}
}

// TestNilAlloc: every call of a nil Alloc is ErrArg, ahead of all other errors.
func TestNilAlloc(t *testing.T) {
	p := planned(t, 64, 100, 10, 8)
	w := formatted(t, p, 2)
	ended := w.begin()
	w.end(ended)
	numbers := append(slices.Clone(far), -1, 0, 1, 2, 9, 10, 16, 17, 50, 99, 100)
	for _, o := range []*group.Op{nil, ended, {}, w.begin()} {
		refused(t, nil, o, numbers, numbers, api.ErrArg)
	}
	w.wantBits(w.g, []int{0, 1}, upTo(0, p.Data))
}

// TestOperationFirst: R2, ErrRange comes ahead of the operation's errors; these come ahead of ErrNone and ErrNoSpace.
func TestOperationFirst(t *testing.T) {
	p := planned(t, 64, 100, 10, 8)
	for _, full := range []bool{false, true} {
		w := formatted(t, p, 2)
		o := w.begin()
		if full {
			w.takeAll(o, p.Blocks-p.Data, p.Inodes-2)
		}
		ended := o
		w.end(o)
		given := w.begin()
		want(t, "Abort", given.Abort(), api.OK)
		other := w.begin()
		for _, x := range []struct {
			o *group.Op
			e api.Errno
		}{{nil, api.ErrArg}, {ended, api.ErrOver}, {given, api.ErrOver}, {&group.Op{}, api.ErrOver}} {
			refused(t, w.a, x.o, []int{p.Data, p.Data + 1, 50, p.Blocks - 1}, []int{2, 3, p.Inodes - 1}, x.e)
			for _, b := range append(slices.Clone(far), -1, 0, p.Data-1, p.Blocks) {
				want(t, "FreeBlock", w.a.FreeBlock(x.o, b), api.ErrRange)
			}
			for _, i := range append(slices.Clone(far), -1, 0, 1, p.Inodes) {
				want(t, "FreeInode", w.a.FreeInode(x.o, i), api.ErrRange)
			}
		}
		w.end(other)
		used, inodes := p.Data, 2
		if full {
			used, inodes = p.Blocks, p.Inodes
		}
		w.wantBits(w.g, upTo(0, inodes), upTo(0, used))
	}
}

// TestOverWhileOpen: an operation that is over does not reach the one that is open: nothing is taken or freed by it.
func TestOverWhileOpen(t *testing.T) {
	p := planned(t, 64, 100, 10, 8)
	w := formatted(t, p, 2)
	elder := w.begin()
	w.takeAll(elder, 4, 3)
	w.end(elder)
	o := w.begin()
	w.takeAll(o, 1, 1)
	refused(t, w.a, elder, []int{p.Data, p.Data + 4, 90}, []int{2, 5, 9}, api.ErrOver)
	want(t, "Format", alloc.Format(elder, p), api.ErrOver)
	w.wantBits(o, upTo(0, 6), upTo(0, p.Data+5))
	if w.g.Kept(p.Data) || w.g.Kept(p.Data+4) {
		t.Error("an operation that is over has freed")
	}
}

// hold answers a device that is dead, and an open operation on it that can read only those blocks of the bitmaps that are told by the bits of which: in turns from the cache, the log, the group, and the operation itself. With pins in place of the death, the cache has no room.
func hold(t *testing.T, full *world, which int, pins bool) (*world, *group.Op) {
	t.Helper()
	p := full.p
	d := filled(t, p, 0)
	var bitmaps [][]byte
	for b := p.IBits; b < p.Table; b++ {
		data, _ := full.d.Read(b)
		want(t, "Load", d.Load(b, data), api.OK)
		bitmaps = append(bitmaps, data)
	}
	w := mounted(t, d, p, len(bitmaps))
	// way: where the block of that number can be read.
	way := func(k, way int) bool { return which>>k&1 == 1 && k%4 == way }
	write := func(o *group.Op, n int) {
		for k, data := range bitmaps {
			if way(k, n) {
				want(t, "Write", o.Write(p.IBits+k, data), api.OK)
			}
		}
	}
	for n := 1; n <= 3; n++ {
		o := w.begin()
		write(o, n)
		if n == 3 {
			for k := range bitmaps {
				if way(k, 0) {
					w.c.Get(p.IBits + k)
				}
			}
			shut(t, w, pins)
			return w, o
		}
		w.end(o)
		if n == 1 {
			w.commit()
		}
	}
	return nil, nil
}

// shut lets nothing be read but what is held: the device dies, or all of a cache that holds as much as it can is pinned.
func shut(t *testing.T, w *world, pins bool) {
	t.Helper()
	if !pins {
		die(t, w.d)
		return
	}
	for b := w.p.Data; len(w.c.Held()) < w.p.ILen+w.p.BLen; b++ {
		w.c.Get(b)
	}
	for _, b := range w.c.Held() {
		want(t, "Pin", w.c.Pin(b), api.OK)
	}
}

// gaps answers an Alloc's device with several blocks in each bitmap, in which just these blocks and inodes are free.
func gaps(t *testing.T, p api.Plan, blocks, inodes []int) *world {
	t.Helper()
	w := formatted(t, p, 4)
	o := w.begin()
	w.takeAll(o, p.Blocks-p.Data, p.Inodes-2)
	for _, b := range blocks {
		want(t, "FreeBlock", w.a.FreeBlock(o, b), api.OK)
	}
	for _, i := range inodes {
		want(t, "FreeInode", w.a.FreeInode(o, i), api.OK)
	}
	w.end(o)
	w.settle()
	return w
}

// found answers what is asked of a bitmap of which only some blocks can be read: the least of free, or the error of the first block that cannot be read, if that comes first.
func found(free []int, from, end, each int, reads func(k int) bool, shut api.Errno) (int, api.Errno) {
	for i := from; i < end; i++ {
		if !reads(i / each) {
			return 0, shut
		}
		if slices.Contains(free, i) {
			return i, api.OK
		}
	}
	return 0, api.ErrNoSpace
}

// TestUnreadable: with R6: the error of the first call of the operation that answers one is the answer, wherever among the bitmaps' blocks it comes; blocks behind what is found are not asked for. Nothing is changed by a call that answers an error, and writing alone asks for nothing.
func TestUnreadable(t *testing.T) {
	// Of the second plan the first block of the blocks' bitmap has no data block's bit, and is not asked for.
	for _, p := range []api.Plan{planned(t, 64, 1600, 600, 40), planned(t, 64, 1600, 1024, 40)} {
		each := 8 * p.Block
		for _, free := range [][2][]int{{nil, nil}, {{p.Data, 600, 1100, 1599}, {3, 511, 512}}, {{1599}, {p.Inodes - 1}}, {{1030, 1031}, {512}}, {{1023}, {511}}, {{1024}, {2}}} {
			full := gaps(t, p, free[0], free[1])
			for which := range 1 << (p.ILen + p.BLen) {
				for _, pins := range []bool{false, true} {
					shut := api.ErrDead
					if pins {
						shut = api.ErrFull
					}
					w, o := hold(t, full, which, pins)
					inode := func(k int) bool { return which>>k&1 == 1 }
					block := func(k int) bool { return inode(p.ILen + k) }
					unreadable(t, w, o, free, block, inode, shut)
					b, e := w.a.Block(o)
					least, f := found(free[0], p.Data, p.Blocks, each, block, shut)
					wantNumber(t, "Block", b, e, least, f)
					i, e := w.a.Inode(o)
					least, f = found(free[1], 0, p.Inodes, each, inode, shut)
					wantNumber(t, "Inode", i, e, least, f)
					want(t, "Format", alloc.Format(o, p), api.OK)
					w.wantFree(o, p.Blocks-p.Data, p.Inodes-2)
					if t.Failed() {
						t.Fatalf("%v, free %v, readable %b, pins %v", p, free, which, pins)
					}
				}
			}
		}
	}
}

// unreadable asks what changes nothing: Free, and the freeing of what is out of range, free, or not to be read.
func unreadable(t *testing.T, w *world, o *group.Op, free [2][]int, block, inode func(k int) bool, shut api.Errno) {
	t.Helper()
	p, each := w.p, 8*w.p.Block
	all := api.OK
	for k := p.Data / each; k < p.BLen; k++ {
		if !block(k) {
			all = shut
		}
	}
	for k := range p.ILen {
		if !inode(k) {
			all = shut
		}
	}
	amount := complex(float64(len(free[0])), float64(len(free[1])))
	if all != api.OK {
		amount = 0
	}
	n, e := w.a.Free(o)
	wantNumber(t, "Free", n, e, amount, all)
	for b := p.Data; b < p.Blocks; b += 7 {
		if !block(b / each) {
			want(t, "FreeBlock", w.a.FreeBlock(o, b), shut)
		}
		if w.g.Kept(b) {
			t.Error("a block that was not freed is kept:", b)
		}
	}
	for _, b := range free[0] {
		if block(b / each) {
			want(t, "FreeBlock", w.a.FreeBlock(o, b), api.ErrNone)
		}
	}
	for i := 2; i < p.Inodes; i += 7 {
		if !inode(i / each) {
			want(t, "FreeInode", w.a.FreeInode(o, i), shut)
		}
	}
	for _, i := range free[1] {
		if inode(i / each) {
			want(t, "FreeInode", w.a.FreeInode(o, i), api.ErrNone)
		}
	}
	for _, x := range []int{math.MinInt, -1, 0, 1, math.MaxInt} {
		want(t, "FreeBlock", w.a.FreeBlock(o, x), api.ErrRange)
		want(t, "FreeInode", w.a.FreeInode(o, x), api.ErrRange)
	}
}

// TestDeadThenAlive: R6, an operation whose calls found the device dead goes on, behind a crash, as if they had not been.
func TestDeadThenAlive(t *testing.T) {
	p := planned(t, 64, 600, 20, 30)
	w := formatted(t, p, 2)
	o := w.begin()
	w.wantBlock(o, p.Data)
	want(t, "Abort", o.Abort(), api.OK)
	w = mounted(t, w.d, p, 2)
	o = w.begin()
	die(t, w.d)
	refused(t, w.a, o, upTo(p.Data, p.Data+4), upTo(2, 6), api.ErrDead)
	want(t, "Crash", w.d.Crash(nil), api.OK)
	w.wantFree(o, p.Blocks-p.Data, p.Inodes-2)
	want(t, "FreeBlock", w.a.FreeBlock(o, p.Data), api.ErrNone)
	w.wantBlock(o, p.Data)
	w.wantInode(o, 2)
	w.end(o)
	w.wantBits(w.g, upTo(0, 3), upTo(0, p.Data+1))
}

// TestFuse: the device dies within a Read of the operation, as the cache makes room for it by a write: that error is the answer, and what was dirty is dirty still.
func TestFuse(t *testing.T) {
	p := planned(t, 64, 600, 20, 30)
	for _, call := range []func(w *world, o *group.Op) api.Errno{
		func(w *world, o *group.Op) api.Errno { _, e := w.a.Block(o); return e },
		func(w *world, o *group.Op) api.Errno { _, e := w.a.Inode(o); return e },
		func(w *world, o *group.Op) api.Errno { _, e := w.a.Free(o); return e },
		func(w *world, o *group.Op) api.Errno { return w.a.FreeBlock(o, p.Data+1) },
		func(w *world, o *group.Op) api.Errno { return w.a.FreeInode(o, 2) },
	} {
		w := formatted(t, p, 1)
		want(t, "Put", w.c.Put(p.Data, make([]byte, 64)), api.OK)
		o := w.begin()
		want(t, "Fuse", w.d.Fuse(0), api.OK)
		want(t, "the call", call(w, o), api.ErrDead)
		if !slices.Equal(w.c.Dirty(), []int{p.Data}) {
			t.Error("dirty are", w.c.Dirty())
		}
		want(t, "Crash", w.d.Crash(nil), api.OK)
		w.wantFree(o, p.Blocks-p.Data, p.Inodes-2)
	}
}

// callAll calls all that an Alloc has, for no panic.
func callAll(a *alloc.Alloc, o *group.Op, p api.Plan) {
	numbers := append(slices.Clone(far), -1, 0, 1, 2, 9, 10, 16, 17, 31, 32, 50, 63, 64, 99, 100, 511, 512, 1023, 1024, 4095, 4096)
	for range 2 {
		a.Block(o)
		a.Inode(o)
		a.Free(o)
		for _, n := range numbers {
			a.FreeBlock(o, n)
			a.FreeInode(o, n)
		}
		alloc.Format(o, p)
		o.End()
	}
}

// TestOddObjects: R1, objects that no call has made, and objects of several groups and plans, answer something, without a panic.
func TestOddObjects(t *testing.T) {
	all := plans(t)
	callAll(nil, nil, api.Plan{})
	callAll(&alloc.Alloc{}, nil, all[2])
	callAll(&alloc.Alloc{}, &group.Op{}, all[2])
	for i, p := range all {
		for j, q := range all {
			w := raw(t, p, []byte{0, 0xff, 0x5a}[(i+j)%3], 2)
			callAll(&alloc.Alloc{}, w.begin(), q)
			for _, g := range []*group.Group{w.g, {}} {
				a, e := alloc.New(g, q)
				want(t, "New", e, api.OK)
				o, _ := w.g.Begin()
				callAll(a, o, q)
				callAll(a, nil, q)
			}
			for _, r := range unsound(q)[:5] {
				callAll(w.a, w.begin(), r)
			}
		}
	}
}

// TestManyGroups: R5, what is taken of one group is not taken of another; the group that keeps blocks is the Alloc's.
func TestManyGroups(t *testing.T) {
	p := planned(t, 64, 100, 10, 8)
	one, two := formatted(t, p, 2), formatted(t, p, 1)
	o, u := one.begin(), two.begin()
	for n := range 8 {
		one.wantBlock(o, p.Data+2*n)
		one.wantBlock(o, p.Data+2*n+1)
		two.wantBlock(u, p.Data+n)
		one.wantInode(o, 2+n)
		if n%2 == 0 {
			two.wantInode(u, 2+n/2)
		}
	}
	want(t, "FreeBlock", one.a.FreeBlock(o, p.Data), api.OK)
	two.wantFree(u, 75, 4)
	one.wantFree(o, 67, 0)
	want(t, "FreeBlock", two.a.FreeBlock(u, p.Data+1), api.OK)
	one.wantBlock(o, p.Data+16)
	two.wantBlock(u, p.Data+8)
	if bytes.Equal(one.bitmaps(o), two.bitmaps(u)) {
		t.Error("two groups have one bitmap")
	}
}
