package inode_test

import (
	"bytes"
	"math"
	"slices"
	"testing"

	"skerry/alloc"
	"skerry/api"
	"skerry/cache"
	"skerry/device"
	"skerry/group"
	"skerry/inode"
	"skerry/plan"
	"skerry/wal"
)

// far are numbers that no device has an inode for, and no file a block or a size.
var far = []int{math.MinInt, math.MinInt + 1, math.MinInt / 2, math.MinInt32 - 1, math.MinInt32, -65536, -4096, -512, -64, -32, -2, 1 << 21, 1 << 24, math.MaxInt32, math.MaxUint32, math.MaxUint32 + 1, math.MaxUint32 + 51, math.MaxInt / 64, math.MaxInt / 32, math.MaxInt/2 + 1, math.MaxInt - 63, math.MaxInt - 1, math.MaxInt}

// rubble is what stands in all blocks that nothing was written to.
const rubble = 0xa7

// planned answers a plan that must be there.
func planned(t *testing.T, block, blocks, inodes, log int) api.Plan {
	t.Helper()
	p, e := plan.Make(block, blocks, inodes, log)
	if e != api.OK {
		t.Fatalf("plan.Make(%d, %d, %d, %d): %d", block, blocks, inodes, log, e)
	}
	return p
}

// plans answers plans of several sizes: with every size of a block, with tables of one block and of several, whose last one is full or not, and with bitmaps of several blocks; files end at the last pointer of Double, within what it names, and within Single.
func plans(t *testing.T) []api.Plan {
	t.Helper()
	var list []api.Plan
	for _, n := range [][4]int{
		{64, 10, 2, 4}, {64, 100, 10, 30}, {64, 300, 11, 60}, {64, 1300, 5, 90}, {64, 1700, 1024, 60},
		{128, 200, 9, 40}, {128, 1500, 4, 90}, {256, 400, 100, 40}, {512, 600, 33, 30}, {1024, 700, 64, 9}, {2048, 300, 65, 5}, {4096, 200, 128, 30}, {4096, 180, 130, 9},
	} {
		list = append(list, planned(t, n[0], n[1], n[2], n[3]))
	}
	return list
}

// unsound answers plans that are like p but for one number, and plans of nothing.
func unsound(p api.Plan) []api.Plan {
	var list []api.Plan
	for _, by := range []int{-1, 1, math.MinInt, math.MaxInt - 4096} {
		for i := range 12 {
			q := p
			*[]*int{&q.Block, &q.Blocks, &q.Inodes, &q.Log, &q.LogAt, &q.IBits, &q.ILen, &q.BBits, &q.BLen, &q.Table, &q.TLen, &q.Data}[i] += by
			// Fewer inodes or other blocks may well be a plan too.
			if plan.Check(q) != api.OK {
				list = append(list, q)
			}
		}
	}
	return append(list, api.Plan{}, api.Plan{Block: p.Block, Blocks: p.Blocks, Inodes: p.Inodes, Log: p.Log})
}

// most answers how many blocks a file has at most, counted by hand.
func most(p api.Plan) int {
	per := p.Block / 2
	return min(524288/p.Block, 8+per+per*per)
}

// edges answers the numbers of a file's blocks at which its ways change, those that are none among them.
func edges(p api.Plan) []int {
	per := p.Block / 2
	list := []int{-1, 0, 1, 6, 7, 8, 9, 8 + per - 1, 8 + per, 8 + per + 1, 8 + 2*per - 1, 8 + 2*per, 8 + 2*per + 1, most(p) - 2, most(p) - 1, most(p), most(p) + 1}
	slices.Sort(list)
	return slices.Compact(list)
}

// inFile answers those of a list that are numbers of a file's blocks.
func inFile(p api.Plan, list []int) []int {
	return slices.DeleteFunc(slices.Clone(list), func(n int) bool { return n < 0 || n >= most(p) })
}

// sizes answers the sizes at which what is cut changes, those that are none among them.
func sizes(p api.Plan) []int {
	list := []int{-1, 0, 1, 2, most(p) * p.Block, most(p)*p.Block + 1}
	for _, n := range edges(p) {
		list = append(list, n*p.Block-1, n*p.Block, n*p.Block+1, n*p.Block+p.Block/2)
	}
	slices.Sort(list)
	return slices.Compact(list)
}

// isSize answers whether a file may have that size.
func isSize(p api.Plan, size int) bool {
	return size >= 0 && size <= most(p)*p.Block
}

// want holds what a call answered against what it should.
func want(t *testing.T, call string, got, wanted api.Errno) {
	t.Helper()
	if got != wanted {
		t.Errorf("%s: %d, should be %d", call, got, wanted)
	}
}

// wantNumber holds a number and an error against what they should be.
func wantNumber[T comparable](t *testing.T, call string, n T, e api.Errno, wanted T, f api.Errno) {
	t.Helper()
	if n != wanted || e != f {
		t.Errorf("%s: %v, %d, should be %v, %d", call, n, e, wanted, f)
	}
}

// world is a Table and all that it stands on.
type world struct {
	t *testing.T
	p api.Plan
	d *device.Device
	l *wal.Log
	c *cache.Cache
	g *group.Group
	a *alloc.Alloc
	u *inode.Table
}

// blank answers a device with an empty log, and rubble in all other blocks, but for a table of inodes that are free.
func blank(t *testing.T, p api.Plan) *device.Device {
	t.Helper()
	d, e := device.New(p.Block, p.Blocks)
	want(t, "device.New", e, api.OK)
	for b := range p.Blocks {
		fill := byte(rubble)
		if b >= p.Table && b < p.Data {
			fill = 0
		}
		want(t, "Load", d.Load(b, bytes.Repeat([]byte{fill}, p.Block)), api.OK)
	}
	want(t, "wal.Format", wal.Format(d, p), api.OK)
	return d
}

// mounted answers a Table on a device that is there.
func mounted(t *testing.T, d *device.Device, p api.Plan, capacity int, picks ...int) *world {
	t.Helper()
	l, e := wal.Open(d, p)
	want(t, "wal.Open", e, api.OK)
	c, e := cache.New(d, capacity, picks)
	want(t, "cache.New", e, api.OK)
	g, e := group.New(d, l, c, p)
	want(t, "group.New", e, api.OK)
	a, e := alloc.New(g, p)
	want(t, "alloc.New", e, api.OK)
	u, e := inode.New(a, p)
	if u == nil || e != api.OK {
		t.Fatalf("New: %v, %d", u, e)
	}
	return &world{t, p, d, l, c, g, a, u}
}

// formatted answers a Table on a device whose bitmaps are laid, and in their places.
func formatted(t *testing.T, p api.Plan, capacity int, picks ...int) *world {
	t.Helper()
	w := mounted(t, blank(t, p), p, capacity, picks...)
	o := w.begin()
	want(t, "Format", alloc.Format(o, p), api.OK)
	w.end(o)
	w.settle()
	return w
}

// begin answers an operation, which must be had.
func (w *world) begin() *group.Op {
	w.t.Helper()
	o, e := w.g.Begin()
	if o == nil || e != api.OK {
		w.t.Fatalf("Begin: %v, %d", o, e)
	}
	return o
}

func (w *world) end(o *group.Op) {
	w.t.Helper()
	want(w.t, "End", o.End(), api.OK)
}

func (w *world) abort(o *group.Op) {
	w.t.Helper()
	want(w.t, "Abort", o.Abort(), api.OK)
}

func (w *world) commit() {
	w.t.Helper()
	want(w.t, "Commit", w.g.Commit(), api.OK)
}

func (w *world) settle() {
	w.t.Helper()
	want(w.t, "Settle", w.g.Settle(), api.OK)
}

// put lets an inode stand there, which must be allowed.
func (w *world) put(o *group.Op, i int, x api.Inode) {
	w.t.Helper()
	want(w.t, "Put", w.u.Put(o, i, x), api.OK)
}

// born lets inode i be a new file.
func (w *world) born(o *group.Op, i int) {
	w.t.Helper()
	w.put(o, i, api.Inode{Kind: api.KindFile, Links: 1})
}

// get answers an inode, which must be had.
func (w *world) get(o *group.Op, i int) api.Inode {
	w.t.Helper()
	x, e := w.u.Get(o, i)
	want(w.t, "Get", e, api.OK)
	return x
}

// make answers a block that must be had.
func (w *world) make(o *group.Op, i, index int) int {
	w.t.Helper()
	b, _, e := w.u.Make(o, i, index)
	want(w.t, "Make", e, api.OK)
	return b
}

// read answers the bytes of a block, which must be had.
func (w *world) read(o *group.Op, b int) []byte {
	w.t.Helper()
	data, e := o.Read(b)
	want(w.t, "Read", e, api.OK)
	return data
}

// wantInode holds an inode against what it should be.
func (w *world) wantInode(o *group.Op, i int, wanted api.Inode) {
	w.t.Helper()
	x, e := w.u.Get(o, i)
	wantNumber(w.t, "Get", x, e, wanted, api.OK)
}

// wantFind holds what is found against what should be.
func (w *world) wantFind(o *group.Op, i, index, wanted int) {
	w.t.Helper()
	b, e := w.u.Find(o, i, index)
	wantNumber(w.t, "Find", b, e, wanted, api.OK)
}

// wantBlocks holds the blocks of a file against what they should be.
func (w *world) wantBlocks(o *group.Op, i int, data, pointers []int) {
	w.t.Helper()
	d, p, e := w.u.Blocks(o, i)
	if !slices.Equal(d, data) || !slices.Equal(p, pointers) || e != api.OK {
		w.t.Errorf("Blocks: %v, %v, %d, should be %v, %v", d, p, e, data, pointers)
	}
}

// used answers the blocks whose bits are 1, of the data blocks.
func (w *world) used(o *group.Op) []int {
	w.t.Helper()
	var list []int
	var data []byte
	for b := range w.p.Blocks {
		if at := b % (8 * w.p.Block); at == 0 {
			data = w.read(o, w.p.BBits+b/(8*w.p.Block))
		}
		at := b % (8 * w.p.Block)
		if data[at/8]>>(at%8)&1 == 1 && b >= w.p.Data {
			list = append(list, b)
		}
	}
	return list
}

// wantUsed holds the data blocks in use against those that should be.
func (w *world) wantUsed(o *group.Op, wanted []int) {
	w.t.Helper()
	if got := w.used(o); !slices.Equal(got, wanted) {
		w.t.Errorf("in use: %v, should be %v", got, wanted)
	}
}

// free answers how many blocks can be taken.
func (w *world) free(o *group.Op) int {
	w.t.Helper()
	n, e := w.a.Free(o)
	want(w.t, "Free", e, api.OK)
	return int(real(n))
}

// leave takes blocks till just so many can be taken.
func (w *world) leave(o *group.Op, n int) {
	w.t.Helper()
	for have := w.free(o); have > n; have-- {
		_, e := w.a.Block(o)
		want(w.t, "Block", e, api.OK)
	}
}

// upTo answers the numbers from a on, ahead of b.
func upTo(a, b int) []int {
	var list []int
	for ; a < b; a++ {
		list = append(list, a)
	}
	return list
}

// sight is all that an operation sees: every block, and which ones are kept.
type sight struct {
	blocks [][]byte
	kept   []int
}

func (w *world) seen(o *group.Op) sight {
	w.t.Helper()
	var s sight
	for b := range w.p.Blocks {
		s.blocks = append(s.blocks, w.read(o, b))
		if w.g.Kept(b) {
			s.kept = append(s.kept, b)
		}
	}
	return s
}

// differs answers the blocks that are not the same in two sights.
func (s sight) differs(r sight) []int {
	var list []int
	for b := range s.blocks {
		if !bytes.Equal(s.blocks[b], r.blocks[b]) || slices.Contains(s.kept, b) != slices.Contains(r.kept, b) {
			list = append(list, b)
		}
	}
	return list
}

// wantSeen holds what an operation sees against what it did.
func (w *world) wantSeen(call string, o *group.Op, s sight) {
	w.t.Helper()
	if list := s.differs(w.seen(o)); len(list) != 0 {
		w.t.Errorf("%s changed blocks %v", call, list)
	}
}

// wantNothing gives up an operation that should have done nothing: it ends, and the group has no more than these blocks.
func (w *world) wantNothing(call string, o *group.Op, blocks []int) {
	w.t.Helper()
	w.end(o)
	if got := w.g.Blocks(); !slices.Equal(got, blocks) {
		w.t.Errorf("%s: the group has %v, should have %v", call, got, blocks)
	}
}

// die lets a device be found dead.
func die(t *testing.T, d *device.Device) {
	t.Helper()
	want(t, "Fuse", d.Fuse(0), api.OK)
	want(t, "Flush", d.Flush(), api.ErrDead)
}

// dice are numbers that look like chance, the same ones each time.
type dice uint64

func (x *dice) below(n int) int {
	*x = *x*6364136223846793005 + 1442695040888963407
	return int(uint64(*x) >> 33 % uint64(n))
}

// picks answers which blocks a cache lets go.
func (x *dice) picks(most int) []int {
	list := make([]int, x.below(most+1))
	for i := range list {
		list[i] = x.below(5) - 1
		if x.below(15) == 0 {
			list[i] = []int{math.MinInt, math.MaxInt, 400, -2}[x.below(4)]
		}
	}
	return list
}
