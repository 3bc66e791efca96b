package alloc_test

import (
	"bytes"
	"math"
	"slices"
	"testing"

	"skerry/alloc"
	"skerry/api"
	"skerry/cache"
	"skerry/device"
	"skerry/group"
	"skerry/plan"
	"skerry/wal"
)

// far are numbers that no device has a block or an inode for.
var far = []int{math.MinInt, math.MinInt + 1, math.MinInt / 2, math.MinInt32 - 1, math.MinInt32, -4096, -512, -64, -8, -2, 1 << 21, math.MaxInt32, math.MaxUint32, math.MaxUint32 + 1, math.MaxUint32 + 51, math.MaxInt / 64, math.MaxInt / 8, math.MaxInt/2 + 1, math.MaxInt - 63, math.MaxInt - 1, math.MaxInt}

// planned answers a plan that must be there.
func planned(t *testing.T, block, blocks, inodes, log int) api.Plan {
	t.Helper()
	p, e := plan.Make(block, blocks, inodes, log)
	if e != api.OK {
		t.Fatalf("plan.Make(%d, %d, %d, %d): %d", block, blocks, inodes, log, e)
	}
	return p
}

// plans answers plans of several sizes: one data block alone; bitmaps of one block and of several; bits that end within a block, at its end, and one behind it; data blocks that begin within a block of the bitmap, at its end, and behind its first ones.
func plans(t *testing.T) []api.Plan {
	t.Helper()
	var list []api.Plan
	for _, n := range [][4]int{
		{64, 10, 2, 4}, {64, 11, 3, 4}, {64, 100, 10, 8}, {64, 511, 511, 12}, {64, 512, 512, 12}, {64, 513, 513, 12},
		{64, 1024, 2, 505}, {64, 1024, 2, 506}, {64, 513, 2, 506}, {64, 1024, 1024, 20}, {64, 4096, 1024, 512}, {64, 4095, 1023, 15},
		{128, 1025, 1024, 9}, {128, 2048, 600, 30}, {256, 4096, 100, 40}, {512, 2048, 1024, 10}, {1024, 1000, 7, 9}, {2048, 512, 3, 5}, {4096, 256, 1024, 30},
	} {
		list = append(list, planned(t, n[0], n[1], n[2], n[3]))
	}
	return list
}

// unsound answers plans that are like p but for one number, and plans of nothing.
func unsound(p api.Plan) []api.Plan {
	var list []api.Plan
	for _, by := range []int{-1, 1, math.MinInt, math.MaxInt - 4096} {
		for i := range 12 {
			q := p
			*[]*int{&q.Block, &q.Blocks, &q.Inodes, &q.Log, &q.LogAt, &q.IBits, &q.ILen, &q.BBits, &q.BLen, &q.Table, &q.TLen, &q.Data}[i] += by
			// Fewer inodes or other blocks may well be a plan too.
			if plan.Check(q) != api.OK {
				list = append(list, q)
			}
		}
	}
	return append(list, api.Plan{}, api.Plan{Block: p.Block, Blocks: p.Blocks, Inodes: p.Inodes, Log: p.Log})
}

// want holds what a call answered against what it should.
func want(t *testing.T, call string, got, wanted api.Errno) {
	t.Helper()
	if got != wanted {
		t.Errorf("%s: %d, should be %d", call, got, wanted)
	}
}

// wantNumber holds a number and an error against what they should be.
func wantNumber[T comparable](t *testing.T, call string, n T, e api.Errno, wanted T, f api.Errno) {
	t.Helper()
	if n != wanted || e != f {
		t.Errorf("%s: %v, %d, should be %v, %d", call, n, e, wanted, f)
	}
}

// filled answers a device with an empty log, and bytes fill in all other blocks.
func filled(t *testing.T, p api.Plan, fill byte) *device.Device {
	t.Helper()
	d, e := device.New(p.Block, p.Blocks)
	want(t, "device.New", e, api.OK)
	for b := range p.Blocks {
		want(t, "Load", d.Load(b, bytes.Repeat([]byte{fill}, p.Block)), api.OK)
	}
	want(t, "wal.Format", wal.Format(d, p), api.OK)
	return d
}

// world is an Alloc and all that it stands on.
type world struct {
	t *testing.T
	p api.Plan
	d *device.Device
	l *wal.Log
	c *cache.Cache
	g *group.Group
	a *alloc.Alloc
}

// mounted answers an Alloc on a device that is there.
func mounted(t *testing.T, d *device.Device, p api.Plan, capacity int, picks ...int) *world {
	t.Helper()
	l, e := wal.Open(d, p)
	want(t, "wal.Open", e, api.OK)
	c, e := cache.New(d, capacity, picks)
	want(t, "cache.New", e, api.OK)
	g, e := group.New(d, l, c, p)
	want(t, "group.New", e, api.OK)
	a, e := alloc.New(g, p)
	if a == nil || e != api.OK {
		t.Fatalf("New: %v, %d", a, e)
	}
	return &world{t, p, d, l, c, g, a}
}

// raw answers an Alloc on a device without bitmaps: all its bytes are fill.
func raw(t *testing.T, p api.Plan, fill byte, capacity int) *world {
	t.Helper()
	return mounted(t, filled(t, p, fill), p, capacity)
}

// formatted answers an Alloc on a device whose bitmaps are laid, and in their places.
func formatted(t *testing.T, p api.Plan, capacity int, picks ...int) *world {
	t.Helper()
	w := mounted(t, filled(t, p, 0xa7), p, capacity, picks...)
	o := w.begin()
	want(t, "Format", alloc.Format(o, p), api.OK)
	w.end(o)
	w.settle()
	return w
}

// begin answers an operation, which must be had.
func (w *world) begin() *group.Op {
	w.t.Helper()
	o, e := w.g.Begin()
	if o == nil || e != api.OK {
		w.t.Fatalf("Begin: %v, %d", o, e)
	}
	return o
}

func (w *world) end(o *group.Op) {
	w.t.Helper()
	want(w.t, "End", o.End(), api.OK)
}

func (w *world) commit() {
	w.t.Helper()
	want(w.t, "Commit", w.g.Commit(), api.OK)
}

func (w *world) settle() {
	w.t.Helper()
	want(w.t, "Settle", w.g.Settle(), api.OK)
}

// wantBlock takes a block, which must be that one.
func (w *world) wantBlock(o *group.Op, wanted int) {
	w.t.Helper()
	b, e := w.a.Block(o)
	wantNumber(w.t, "Block", b, e, wanted, api.OK)
}

// wantInode takes an inode, which must be that one.
func (w *world) wantInode(o *group.Op, wanted int) {
	w.t.Helper()
	i, e := w.a.Inode(o)
	wantNumber(w.t, "Inode", i, e, wanted, api.OK)
}

// wantFree holds what is free against what should be.
func (w *world) wantFree(o *group.Op, blocks, inodes int) {
	w.t.Helper()
	n, e := w.a.Free(o)
	wantNumber(w.t, "Free", n, e, complex(float64(blocks), float64(inodes)), api.OK)
}

// wantNone takes a block and an inode, of which there must be none.
func (w *world) wantNone(o *group.Op) {
	w.t.Helper()
	b, e := w.a.Block(o)
	wantNumber(w.t, "Block", b, e, 0, api.ErrNoSpace)
	i, e := w.a.Inode(o)
	wantNumber(w.t, "Inode", i, e, 0, api.ErrNoSpace)
}

// takeAll takes so many blocks and inodes.
func (w *world) takeAll(o *group.Op, blocks, inodes int) {
	w.t.Helper()
	for range blocks {
		_, e := w.a.Block(o)
		want(w.t, "Block", e, api.OK)
	}
	for range inodes {
		_, e := w.a.Inode(o)
		want(w.t, "Inode", e, api.OK)
	}
}

// reader is what has Read: a group, or an operation.
type reader interface {
	Read(b int) ([]byte, api.Errno)
}

// bitmaps answers the bytes of both bitmaps, the inodes' first.
func (w *world) bitmaps(r reader) []byte {
	w.t.Helper()
	var all []byte
	for b := w.p.IBits; b < w.p.Table; b++ {
		data, e := r.Read(b)
		want(w.t, "Read", e, api.OK)
		all = append(all, data...)
	}
	return all
}

// on answers the numbers of the bits that are 1 in bytes.
func on(data []byte) []int {
	var list []int
	for i := range 8 * len(data) {
		if data[i/8]>>(i%8)&1 == 1 {
			list = append(list, i)
		}
	}
	return list
}

// wantBits holds the bits that are 1 in the inodes' and the blocks' bitmap against those that should be.
func (w *world) wantBits(r reader, inodes, blocks []int) {
	w.t.Helper()
	all, at := w.bitmaps(r), w.p.ILen*w.p.Block
	if got := on(all[:at]); !slices.Equal(got, inodes) {
		w.t.Errorf("inodes' bits: %v, should be %v", got, inodes)
	}
	if got := on(all[at:]); !slices.Equal(got, blocks) {
		w.t.Errorf("blocks' bits: %v, should be %v", got, blocks)
	}
}

// upTo answers the numbers from a on, ahead of b.
func upTo(a, b int) []int {
	var list []int
	for ; a < b; a++ {
		list = append(list, a)
	}
	return list
}

// snap is all that can be told of what an Alloc stands on, without changing it.
type snap struct {
	writes                             int
	dead                               bool
	waiting, held, dirty, blocks, kept []int
	header                             api.Header
	image, lines, logged, pending      [][]byte
}

func (w *world) snapped() snap {
	s := snap{writes: w.d.Writes(), dead: w.d.Dead(), waiting: w.d.Waiting(), held: w.c.Held(), dirty: w.c.Dirty(), blocks: w.g.Blocks(), header: w.l.Header()}
	for b := range w.p.Blocks {
		data, _ := w.d.Read(b)
		s.image = append(s.image, data)
		if w.g.Kept(b) {
			s.kept = append(s.kept, b)
		}
	}
	for _, b := range s.held {
		data, _ := w.c.Get(b)
		s.lines = append(s.lines, data)
	}
	for _, b := range s.blocks {
		data, _ := w.g.Read(b)
		s.logged = append(s.logged, data)
	}
	for _, x := range w.l.Pending() {
		s.pending = append(s.pending, []byte{byte(x.Block), byte(x.Block / 256)}, x.Data)
	}
	return s
}

// differs answers what of two snaps is not the same; nothing, if all is.
func (s snap) differs(r snap) string {
	same := func(a, b [][]byte) bool { return slices.EqualFunc(a, b, bytes.Equal) }
	switch {
	case s.writes != r.writes || s.dead != r.dead || !slices.Equal(s.waiting, r.waiting) || !same(s.image, r.image):
		return "the device"
	case !slices.Equal(s.held, r.held) || !slices.Equal(s.dirty, r.dirty) || !same(s.lines, r.lines):
		return "the cache"
	case s.header != r.header || !same(s.pending, r.pending):
		return "the log"
	case !slices.Equal(s.blocks, r.blocks) || !same(s.logged, r.logged):
		return "the group's blocks"
	case !slices.Equal(s.kept, r.kept):
		return "which blocks are kept"
	}
	return ""
}

// wantSame holds a world against what it was.
func (w *world) wantSame(call string, s snap) {
	w.t.Helper()
	if what := s.differs(w.snapped()); what != "" {
		w.t.Errorf("%s changed %s", call, what)
	}
}

// die lets a device be found dead.
func die(t *testing.T, d *device.Device) {
	t.Helper()
	want(t, "Fuse", d.Fuse(0), api.OK)
	want(t, "Flush", d.Flush(), api.ErrDead)
}

// dice are numbers that look like chance, the same ones each time.
type dice uint64

func (x *dice) below(n int) int {
	*x = *x*6364136223846793005 + 1442695040888963407
	return int(uint64(*x) >> 33 % uint64(n))
}

// picks answers which blocks a cache lets go, or how a crash goes.
func (x *dice) picks(most int) []int {
	list := make([]int, x.below(most+1))
	for i := range list {
		list[i] = x.below(5) - 1
		if x.below(15) == 0 {
			list[i] = []int{math.MinInt, math.MaxInt, 400, -2}[x.below(4)]
		}
	}
	return list
}
