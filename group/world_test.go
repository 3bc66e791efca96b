package group_test

import (
	"bytes"
	"math"
	"slices"
	"testing"

	"skerry/api"
	"skerry/cache"
	"skerry/device"
	"skerry/group"
	"skerry/plan"
	"skerry/wal"
)

// far are numbers that no device has a block for.
var far = []int{math.MinInt, math.MinInt + 1, math.MinInt / 2, math.MinInt32 - 1, math.MinInt32, -4096, -64, -2, 1 << 21, math.MaxInt32, math.MaxUint32, math.MaxUint32 + 1, math.MaxUint32 + 51, math.MaxInt / 64, math.MaxInt/2 + 1, math.MaxInt - 63, math.MaxInt - 1, math.MaxInt}

// marked answers a block of bytes that no other mark below 60000 has.
func marked(n, mark int) []byte {
	b := make([]byte, n)
	for i := range b {
		b[i] = byte(mark + 31*i + i*i*(mark/251))
	}
	copy(b[n-2:], []byte{byte(mark / 250), byte(mark % 250)})
	return b
}

// planned answers a plan that must be there.
func planned(t *testing.T, block, blocks, inodes, log int) api.Plan {
	t.Helper()
	p, e := plan.Make(block, blocks, inodes, log)
	if e != api.OK {
		t.Fatalf("plan.Make(%d, %d, %d, %d): %d", block, blocks, inodes, log, e)
	}
	return p
}

// before is what stands in a block of a device ahead of all calls.
func before(p api.Plan, b int) []byte {
	return marked(p.Block, 50000+b)
}

// want holds what a call answered against what it should.
func want(t *testing.T, call string, got, wanted api.Errno) {
	t.Helper()
	if got != wanted {
		t.Errorf("%s: %d, should be %d", call, got, wanted)
	}
}

// fresh answers a device with an empty log, and other bytes in all other blocks.
func fresh(t *testing.T, p api.Plan) *device.Device {
	t.Helper()
	d, e := device.New(p.Block, p.Blocks)
	want(t, "device.New", e, api.OK)
	for b := range p.Blocks {
		want(t, "Load", d.Load(b, before(p, b)), api.OK)
	}
	want(t, "Format", wal.Format(d, p), api.OK)
	return d
}

// world is a group and all that it stands on.
type world struct {
	t *testing.T
	p api.Plan
	d *device.Device
	l *wal.Log
	c *cache.Cache
	g *group.Group
}

// newWorld answers a group on a new device.
func newWorld(t *testing.T, p api.Plan, capacity int, picks ...int) *world {
	t.Helper()
	return mounted(t, fresh(t, p), p, capacity, picks...)
}

// mounted answers a group on a device that is there.
func mounted(t *testing.T, d *device.Device, p api.Plan, capacity int, picks ...int) *world {
	t.Helper()
	l, e := wal.Open(d, p)
	want(t, "wal.Open", e, api.OK)
	c, e := cache.New(d, capacity, picks)
	want(t, "cache.New", e, api.OK)
	g, e := group.New(d, l, c, p)
	if g == nil || e != api.OK {
		t.Fatalf("New: %v, %d", g, e)
	}
	return &world{t, p, d, l, c, g}
}

// begin answers an operation, which must be had.
func (w *world) begin() *group.Op {
	w.t.Helper()
	o, e := w.g.Begin()
	if o == nil || e != api.OK {
		w.t.Fatalf("Begin: %v, %d", o, e)
	}
	return o
}

func (w *world) commit() {
	w.t.Helper()
	want(w.t, "Commit", w.g.Commit(), api.OK)
}

func (w *world) settle() {
	w.t.Helper()
	want(w.t, "Settle", w.g.Settle(), api.OK)
}

// block answers the bytes of that mark.
func (w *world) block(mark int) []byte {
	return marked(w.p.Block, mark)
}

// write notes bytes of these marks by Write, from block b on.
func (w *world) write(o *group.Op, b int, marks ...int) {
	w.t.Helper()
	for i, mark := range marks {
		want(w.t, "Write", o.Write(b+i, w.block(mark)), api.OK)
	}
}

// data notes bytes of these marks by Data, from block b on.
func (w *world) data(o *group.Op, b int, marks ...int) {
	w.t.Helper()
	for i, mark := range marks {
		want(w.t, "Data", o.Data(b+i, w.block(mark)), api.OK)
	}
}

func (w *world) free(o *group.Op, blocks ...int) {
	w.t.Helper()
	for _, b := range blocks {
		want(w.t, "Free", o.Free(b), api.OK)
	}
}

func (w *world) end(o *group.Op) {
	w.t.Helper()
	want(w.t, "End", o.End(), api.OK)
}

// wrote lets one operation write these marks, from block b on, and end.
func (w *world) wrote(b int, marks ...int) {
	w.t.Helper()
	o := w.begin()
	w.write(o, b, marks...)
	w.end(o)
}

// hasData lets one operation write these marks as data, from block b on, and end.
func (w *world) hasData(b int, marks ...int) {
	w.t.Helper()
	o := w.begin()
	w.data(o, b, marks...)
	w.end(o)
}

// freed lets one operation free these blocks, and end.
func (w *world) freed(blocks ...int) {
	w.t.Helper()
	o := w.begin()
	w.free(o, blocks...)
	w.end(o)
}

// reader is what has Read: a group, or an operation.
type reader interface {
	Read(b int) ([]byte, api.Errno)
}

func (w *world) wantRead(r reader, b int, wanted []byte) {
	w.t.Helper()
	if got, e := r.Read(b); e != api.OK || !bytes.Equal(got, wanted) {
		w.t.Errorf("Read(%d): %v, %d, should be %v", b, got, e, wanted)
	}
}

func (w *world) wantMark(r reader, b, mark int) {
	w.t.Helper()
	w.wantRead(r, b, w.block(mark))
}

// wantBlocks holds the group's blocks against those that it should have.
func (w *world) wantBlocks(blocks ...int) {
	w.t.Helper()
	if got := w.g.Blocks(); !slices.Equal(got, blocks) {
		w.t.Errorf("Blocks: %v, should be %v", got, blocks)
	}
}

// wantKept holds the blocks that are kept against those that should be.
func (w *world) wantKept(blocks ...int) {
	w.t.Helper()
	var got []int
	for b := -3; b < w.p.Blocks+3; b++ {
		if w.g.Kept(b) {
			got = append(got, b)
		}
	}
	if !slices.Equal(got, blocks) {
		w.t.Errorf("Kept: %v, should be %v", got, blocks)
	}
}

// wantPending holds the blocks that are pending in the log against those that should be.
func (w *world) wantPending(blocks ...int) {
	w.t.Helper()
	if got := pendingBlocks(w.l); !slices.Equal(got, blocks) {
		w.t.Errorf("Pending: %v, should be %v", got, blocks)
	}
}

// wantHeld holds the blocks that the cache holds against those that it should.
func (w *world) wantHeld(blocks ...int) {
	w.t.Helper()
	if got := w.c.Held(); !slices.Equal(got, blocks) {
		w.t.Errorf("Held: %v, should be %v", got, blocks)
	}
}

// wantDirty holds the cache's dirty blocks against those that should be.
func (w *world) wantDirty(blocks ...int) {
	w.t.Helper()
	if got := w.c.Dirty(); !slices.Equal(got, blocks) {
		w.t.Errorf("Dirty: %v, should be %v", got, blocks)
	}
}

// snap is all that can be told of a world without changing it.
type snap struct {
	writes                 int
	dead                   bool
	waiting, held, dirty   []int
	blocks, kept           []int
	header                 api.Header
	pending                []api.Write
	image, lines           [][]byte
	readOfGroup, readOfLog [][]byte
}

// snapped answers that; blocks are read through the group only where the cache needs no room for it.
func (w *world) snapped() snap {
	s := snap{writes: w.d.Writes(), dead: w.d.Dead(), waiting: w.d.Waiting(), held: w.c.Held(), dirty: w.c.Dirty(), blocks: w.g.Blocks(), header: w.l.Header(), pending: w.l.Pending()}
	for b := range w.p.Blocks {
		data, _ := w.d.Read(b)
		s.image = append(s.image, data)
		if w.g.Kept(b) {
			s.kept = append(s.kept, b)
		}
	}
	for _, b := range s.held {
		data, _ := w.c.Get(b)
		s.lines = append(s.lines, data)
	}
	for _, b := range s.blocks {
		data, _ := w.g.Read(b)
		s.readOfGroup = append(s.readOfGroup, data)
	}
	for _, x := range s.pending {
		data, _ := w.g.Read(x.Block)
		s.readOfLog = append(s.readOfLog, data)
	}
	return s
}

// differs answers what of two snaps is not the same; nothing, if all is.
func (s snap) differs(r snap) string {
	same := func(a, b [][]byte) bool { return slices.EqualFunc(a, b, bytes.Equal) }
	switch {
	case s.writes != r.writes:
		return "the device's writes"
	case s.dead != r.dead:
		return "whether the device is dead"
	case !slices.Equal(s.waiting, r.waiting):
		return "what waits"
	case !same(s.image, r.image):
		return "what is read of the device"
	case !slices.Equal(s.held, r.held) || !same(s.lines, r.lines):
		return "what the cache holds"
	case !slices.Equal(s.dirty, r.dirty):
		return "what is dirty in the cache"
	case !slices.Equal(s.blocks, r.blocks):
		return "the group's blocks"
	case !same(s.readOfGroup, r.readOfGroup):
		return "what is read of the group's blocks"
	case !slices.Equal(s.kept, r.kept):
		return "which blocks are kept"
	case s.header != r.header || !equal(s.pending, r.pending):
		return "the log"
	case !same(s.readOfLog, r.readOfLog):
		return "what is read of pending blocks"
	}
	return ""
}

// wantSame holds a world against what it was.
func (w *world) wantSame(call string, s snap) {
	w.t.Helper()
	if what := s.differs(w.snapped()); what != "" {
		w.t.Errorf("%s changed %s", call, what)
	}
}

func equal(a, b []api.Write) bool {
	return slices.EqualFunc(a, b, func(v, w api.Write) bool {
		return v.Block == w.Block && bytes.Equal(v.Data, w.Data)
	})
}

// die lets a device be found dead.
func die(t *testing.T, d *device.Device) {
	t.Helper()
	want(t, "Fuse", d.Fuse(0), api.OK)
	want(t, "Flush", d.Flush(), api.ErrDead)
}
