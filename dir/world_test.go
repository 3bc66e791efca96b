package dir_test

import (
	"bytes"
	"math"
	"slices"
	"testing"

	"skerry/alloc"
	"skerry/api"
	"skerry/cache"
	"skerry/device"
	"skerry/file"
	"skerry/group"
	"skerry/inode"
	"skerry/plan"
	"skerry/wal"
)

// below and above are numbers that no inode has.
var (
	below = []int{math.MinInt, math.MinInt + 1, math.MinInt / 2, math.MinInt32 - 1, math.MinInt32, -65537, -65536, -65535, -64, -2, -1}
	above = []int{65536, 65537, 1 << 17, math.MaxInt32, math.MaxUint32, math.MaxUint32 + 2, math.MaxInt / 64, math.MaxInt/2 + 1, math.MaxInt - 64, math.MaxInt - 1, math.MaxInt}
)

// rubble is what stands in all blocks that nothing was written to.
const rubble = 0xa7

// planned answers a plan that must be there.
func planned(t *testing.T, block, blocks, inodes, log int) api.Plan {
	t.Helper()
	p, e := plan.Make(block, blocks, inodes, log)
	if e != api.OK {
		t.Fatalf("plan.Make(%d, %d, %d, %d): %d", block, blocks, inodes, log, e)
	}
	return p
}

// plans answers plans with every size of a block, and with bitmaps of several blocks.
func plans(t *testing.T) []api.Plan {
	t.Helper()
	var list []api.Plan
	for _, n := range [][4]int{
		{64, 500, 10, 200}, {64, 1300, 5, 200}, {128, 300, 9, 120}, {256, 200, 100, 80}, {512, 150, 33, 50}, {1024, 100, 64, 30}, {2048, 80, 65, 20}, {4096, 60, 130, 12},
	} {
		list = append(list, planned(t, n[0], n[1], n[2], n[3]))
	}
	return list
}

// unsound answers plans that are like p but for one number, and plans of nothing.
func unsound(p api.Plan) []api.Plan {
	var list []api.Plan
	for _, by := range []int{-1, 1, math.MinInt, math.MaxInt - 4096} {
		for i := range 12 {
			q := p
			*[]*int{&q.Block, &q.Blocks, &q.Inodes, &q.Log, &q.LogAt, &q.IBits, &q.ILen, &q.BBits, &q.BLen, &q.Table, &q.TLen, &q.Data}[i] += by
			// Fewer inodes or other blocks may well be a plan too.
			if plan.Check(q) != api.OK {
				list = append(list, q)
			}
		}
	}
	zero := p
	zero.Block = 0
	return append(list, zero, api.Plan{}, api.Plan{Block: p.Block, Blocks: p.Blocks, Inodes: p.Inodes, Log: p.Log})
}

// most answers how many bytes a directory has at most, counted by hand.
func most(p api.Plan) int {
	per := p.Block / 2
	return min(524288, p.Block*(8+per+per*per))
}

// want holds what a call answered against what it should.
func want(t *testing.T, call string, got, wanted api.Errno) {
	t.Helper()
	if got != wanted {
		t.Errorf("%s: %d, should be %d", call, got, wanted)
	}
}

// world is a Table and all that it stands on.
type world struct {
	t *testing.T
	p api.Plan
	d *device.Device
	l *wal.Log
	c *cache.Cache
	g *group.Group
	a *alloc.Alloc
	u *inode.Table
}

// blank answers a device with an empty log, and rubble in all other blocks, but for a table of inodes that are free.
func blank(t *testing.T, p api.Plan) *device.Device {
	t.Helper()
	d, e := device.New(p.Block, p.Blocks)
	want(t, "device.New", e, api.OK)
	for b := range p.Blocks {
		fill := byte(rubble)
		if b >= p.Table && b < p.Data {
			fill = 0
		}
		want(t, "Load", d.Load(b, bytes.Repeat([]byte{fill}, p.Block)), api.OK)
	}
	want(t, "wal.Format", wal.Format(d, p), api.OK)
	return d
}

// mounted answers a Table on a device that is there.
func mounted(t *testing.T, d *device.Device, p api.Plan, capacity int, picks ...int) *world {
	t.Helper()
	l, e := wal.Open(d, p)
	want(t, "wal.Open", e, api.OK)
	c, e := cache.New(d, capacity, picks)
	want(t, "cache.New", e, api.OK)
	g, e := group.New(d, l, c, p)
	want(t, "group.New", e, api.OK)
	a, e := alloc.New(g, p)
	want(t, "alloc.New", e, api.OK)
	u, e := inode.New(a, p)
	if u == nil || e != api.OK {
		t.Fatalf("New: %v, %d", u, e)
	}
	return &world{t, p, d, l, c, g, a, u}
}

// formatted answers a Table on a device whose bitmaps are laid, and in their places.
func formatted(t *testing.T, p api.Plan, capacity int, picks ...int) *world {
	t.Helper()
	w := mounted(t, blank(t, p), p, capacity, picks...)
	o := w.begin()
	want(t, "Format", alloc.Format(o, p), api.OK)
	w.end(o)
	w.settle()
	return w
}

// founded answers a world in which inode 1 is a file and inodes 2 and 3 are directories, new ones all, and an operation on it.
func founded(t *testing.T, p api.Plan, capacity int, picks ...int) (*world, *group.Op) {
	t.Helper()
	w := formatted(t, p, capacity, picks...)
	o := w.begin()
	w.born(o, 1, api.KindFile)
	w.born(o, 2, api.KindDir)
	w.born(o, 3, api.KindDir)
	return w, o
}

// begin answers an operation, which must be had.
func (w *world) begin() *group.Op {
	w.t.Helper()
	o, e := w.g.Begin()
	if o == nil || e != api.OK {
		w.t.Fatalf("Begin: %v, %d", o, e)
	}
	return o
}

func (w *world) end(o *group.Op) {
	w.t.Helper()
	want(w.t, "End", o.End(), api.OK)
}

func (w *world) abort(o *group.Op) {
	w.t.Helper()
	want(w.t, "Abort", o.Abort(), api.OK)
}

func (w *world) commit() {
	w.t.Helper()
	want(w.t, "Commit", w.g.Commit(), api.OK)
}

func (w *world) settle() {
	w.t.Helper()
	want(w.t, "Settle", w.g.Settle(), api.OK)
}

// put lets an inode stand there, which must be allowed.
func (w *world) put(o *group.Op, i int, x api.Inode) {
	w.t.Helper()
	want(w.t, "Put", w.u.Put(o, i, x), api.OK)
}

// born lets inode i be new, of that kind.
func (w *world) born(o *group.Op, i, kind int) {
	w.t.Helper()
	w.put(o, i, api.Inode{Kind: kind, Links: 1})
}

// get answers an inode, which must be had.
func (w *world) get(o *group.Op, i int) api.Inode {
	w.t.Helper()
	x, e := w.u.Get(o, i)
	want(w.t, "Get", e, api.OK)
	return x
}

// write lets bytes stand in a file or a directory, past package dir.
func (w *world) write(o *group.Op, i, at int, data []byte) {
	w.t.Helper()
	for len(data) > 0 {
		n := min(4096, len(data))
		want(w.t, "file.Write", file.Write(o, w.u, w.p, i, at, data[:n]), api.OK)
		at, data = at+n, data[n:]
	}
}

// all answers all bytes of a file or a directory, read bit by bit.
func (w *world) all(o *group.Op, i int) []byte {
	w.t.Helper()
	var data []byte
	for {
		part, e := file.Read(o, w.u, w.p, i, len(data), 4096)
		want(w.t, "file.Read", e, api.OK)
		if len(part) == 0 {
			return data
		}
		data = append(data, part...)
	}
}

// blocks answers the data blocks of a file, with holes, and its blocks with pointers.
func (w *world) blocks(o *group.Op, i int) (data, pointers []int) {
	w.t.Helper()
	data, pointers, e := w.u.Blocks(o, i)
	want(w.t, "Blocks", e, api.OK)
	return data, pointers
}

// used answers the blocks whose bits are 1, of the data blocks.
func (w *world) used(o *group.Op) []int {
	w.t.Helper()
	var list []int
	each := 8 * w.p.Block
	var data []byte
	for b := range w.p.Blocks {
		if b%each == 0 {
			part, e := o.Read(w.p.BBits + b/each)
			want(w.t, "Read", e, api.OK)
			data = part
		}
		if data[b%each/8]>>(b%8)&1 == 1 && b >= w.p.Data {
			list = append(list, b)
		}
	}
	return list
}

// free answers how many blocks can be taken.
func (w *world) free(o *group.Op) int {
	w.t.Helper()
	n, e := w.a.Free(o)
	want(w.t, "Free", e, api.OK)
	return int(real(n))
}

// leave takes blocks till just so many can be taken.
func (w *world) leave(o *group.Op, n int) {
	w.t.Helper()
	for have := w.free(o); have > n; have-- {
		_, e := w.a.Block(o)
		want(w.t, "Block", e, api.OK)
	}
}

// sight is all that an operation sees: every block behind the log, and which ones are kept. (The log's own blocks are written past the cache.)
type sight struct {
	blocks [][]byte
	kept   []int
}

func (w *world) seen(o *group.Op) sight {
	w.t.Helper()
	var s sight
	s.blocks = make([][]byte, w.p.IBits)
	for b := w.p.IBits; b < w.p.Blocks; b++ {
		data, e := o.Read(b)
		want(w.t, "Read", e, api.OK)
		s.blocks = append(s.blocks, data)
		if w.g.Kept(b) {
			s.kept = append(s.kept, b)
		}
	}
	return s
}

// inUse answers what an operation sees but for the bytes of blocks that are free: these are nobody's.
func (w *world) inUse(o *group.Op) sight {
	w.t.Helper()
	s := w.seen(o)
	all := slices.Clone(s.blocks)
	clear(s.blocks[w.p.Data:])
	for _, b := range w.used(o) {
		s.blocks[b] = all[b]
	}
	return s
}

// differs answers the blocks that are not the same in two sights.
func (s sight) differs(r sight) []int {
	var list []int
	for b := range s.blocks {
		if !bytes.Equal(s.blocks[b], r.blocks[b]) || slices.Contains(s.kept, b) != slices.Contains(r.kept, b) {
			list = append(list, b)
		}
	}
	return list
}

// wantSeen holds what an operation sees against what it did.
func (w *world) wantSeen(call string, o *group.Op, s sight) {
	w.t.Helper()
	if list := s.differs(w.seen(o)); len(list) != 0 {
		w.t.Errorf("%s changed blocks %v", call, list)
	}
}

// wantNothing ends an operation that should have done nothing: the group has no block, and the cache no dirty one.
func (w *world) wantNothing(call string, o *group.Op) {
	w.t.Helper()
	w.end(o)
	if got := w.g.Blocks(); len(got) != 0 {
		w.t.Errorf("%s: the group has %v", call, got)
	}
	if got := w.c.Dirty(); len(got) != 0 {
		w.t.Errorf("%s: %v are dirty", call, got)
	}
}

// ops answers operations that do nothing any more, each with its error: none, one that has ended, one that was given up, one that no group began.
func (w *world) ops() map[*group.Op]api.Errno {
	w.t.Helper()
	ended := w.begin()
	w.end(ended)
	given := w.begin()
	w.abort(given)
	return map[*group.Op]api.Errno{nil: api.ErrArg, ended: api.ErrOver, given: api.ErrOver, {}: api.ErrOver}
}

// die lets a device be found dead.
func die(t *testing.T, d *device.Device) {
	t.Helper()
	want(t, "Fuse", d.Fuse(0), api.OK)
	want(t, "Flush", d.Flush(), api.ErrDead)
}

// dice are numbers that look like chance, the same ones each time.
type dice uint64

func (x *dice) below(n int) int {
	*x = *x*6364136223846793005 + 1442695040888963407
	return int(uint64(*x) >> 33 % uint64(n))
}

// picks answers which blocks a cache lets go.
func (x *dice) picks(most int) []int {
	list := make([]int, x.below(most+1))
	for i := range list {
		list[i] = x.below(5) - 1
		if x.below(15) == 0 {
			list[i] = []int{math.MinInt, math.MaxInt, 400, -2}[x.below(4)]
		}
	}
	return list
}
