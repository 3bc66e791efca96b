package audit

import (
	"bytes"
	"cmp"
	"maps"
	"slices"
	"strings"

	"skerry/api"
	"skerry/bits"
	"skerry/codec"
	"skerry/device"
	"skerry/field"
	"skerry/need"
	"skerry/plan"
	"skerry/wal"
)

// root is the inode of the directory that all paths begin with.
const root = 1

// How many bytes stand for an inode, for a pointer and for a name.
const (
	inodeSize   = 32
	pointerSize = 2
	nameSize    = 16
)

// disk is a replayed image, and what has been found on it so far.
type disk struct {
	plan   api.Plan
	blocks [][]byte
	inodes []api.Inode
	// The blocks that some pointer names.
	named map[int]struct{}
	// Of each inode in use its data blocks, by their numbers in the file. Holes are left out: a file may have far more of them than a device has blocks.
	files map[int]map[int]int
	// Of each directory its names, rising.
	names map[int][]api.Dirent
}

// replay answers the disk of an image that can be replayed.
func replay(image [][]byte) *disk {
	demand(len(image) > 0)
	p, e := codec.Unsuper(image[0])
	demand(e == api.OK && len(image) == p.Blocks)
	// A device of a plan's size is never refused.
	d, _ := device.New(p.Block, p.Blocks)
	for b, data := range image {
		demand(d.Load(b, data) == api.OK)
	}
	log, e := wal.Open(d, p)
	demand(e == api.OK)
	// Applying the log would write its header too.
	for _, w := range log.Pending() {
		d.Load(w.Block, w.Data)
	}
	blocks, _ := Image(d)
	return &disk{plan: p, blocks: blocks}
}

// look answers the disk of a sound image.
func look(image [][]byte) *disk {
	d := replay(image)
	d.readInodes()
	d.readFiles()
	d.readDirs()
	d.checkLinks()
	d.checkReach()
	return d
}

// row answers the bytes of n blocks from the block from on.
func (d *disk) row(from, n int) []byte {
	return bytes.Join(d.blocks[from:from+n], nil)
}

// demandBits demands that of a bitmap of n blocks just the bits in on are 1.
func (d *disk) demandBits(from, n int, on []int) {
	got := d.row(from, n)
	wanted, e := bits.Make(8*len(got), on)
	demand(e == api.OK && bytes.Equal(got, wanted))
}

// readInodes finds the inodes, and holds their bitmap against them.
func (d *disk) readInodes() {
	table := d.row(d.plan.Table, d.plan.TLen)
	end := d.plan.Inodes * inodeSize
	for raw := range slices.Chunk(table[:end], inodeSize) {
		x, e := codec.Uninode(raw)
		demand(e == api.OK)
		d.inodes = append(d.inodes, x)
	}
	zero, _ := field.Zero(table, end, len(table)-end)
	demand(zero && !d.inUse(0))
	d.demandBits(d.plan.IBits, d.plan.ILen, append(d.used(), 0, root))
}

// inUse answers whether inode i is there, and not free.
func (d *disk) inUse(i int) bool {
	return i < len(d.inodes) && d.inodes[i].Kind != api.KindFree
}

// used answers the inodes in use.
func (d *disk) used() []int {
	var list []int
	for i := range d.inodes {
		if d.inUse(i) {
			list = append(list, i)
		}
	}
	return list
}

// readFiles finds the blocks of all inodes, and holds their bitmap against them.
func (d *disk) readFiles() {
	d.named = map[int]struct{}{}
	d.files = map[int]map[int]int{}
	for _, i := range d.used() {
		d.files[i] = d.follow(d.inodes[i])
	}
	on := slices.Collect(maps.Keys(d.named))
	for b := range d.plan.Data {
		on = append(on, b)
	}
	d.demandBits(d.plan.BBits, d.plan.BLen, on)
}

// whole answers how many block numbers of an inode lie ahead of its Size.
func (d *disk) whole(x api.Inode) int {
	n, _, e := plan.Whole(d.plan, x.Size)
	demand(e == api.OK)
	return n
}

// follow answers the data blocks of an inode. It ends, as no block may be met twice.
func (d *disk) follow(x api.Inode) map[int]int {
	whole, per := d.whole(x), d.plan.Block/pointerSize
	found := map[int]int{}
	// A pointer that is met lies on the ways of so many numbers, from number on.
	var down func(b, number, span int)
	down = func(b, number, span int) {
		if b == 0 {
			return
		}
		demand(number < whole)
		d.name(b)
		if span == 1 {
			found[number] = b
			return
		}
		each := span / per
		for step := range per {
			down(d.pointer(b, step), number+step*each, each)
		}
	}
	for number, b := range x.Direct {
		down(b, number, 1)
	}
	down(x.Single, api.Direct, per)
	down(x.Double, api.Direct+per, per*per)
	return found
}

// name takes note of a block that a pointer names.
func (d *disk) name(b int) {
	demand(b >= d.plan.Data && b < d.plan.Blocks)
	_, twice := d.named[b]
	demand(!twice)
	d.named[b] = struct{}{}
}

// pointer answers pointer number step of block b.
func (d *disk) pointer(b, step int) int {
	to, _ := field.Get(d.blocks[b], step*pointerSize, pointerSize)
	return to
}

// content answers the bytes of inode i, those of holes 0.
func (d *disk) content(i int) []byte {
	data := make([]byte, d.inodes[i].Size)
	for number, b := range d.files[i] {
		copy(data[number*d.plan.Block:], d.blocks[b])
	}
	return data
}

// readDirs finds the names of all directories.
func (d *disk) readDirs() {
	d.names = map[int][]api.Dirent{}
	for _, i := range d.used() {
		if d.inodes[i].Kind == api.KindDir {
			d.names[i] = d.readNames(i)
		}
	}
	_, has := d.names[root]
	demand(has)
}

// readNames answers the names of directory i, rising.
func (d *disk) readNames(i int) []api.Dirent {
	x := d.inodes[i]
	demand(x.Size%nameSize == 0 && len(d.files[i]) == d.whole(x))
	var list []api.Dirent
	for raw := range slices.Chunk(d.content(i), nameSize) {
		entry, e := codec.Undirent(raw)
		// Inode 0, of bytes that are no name, is not in use either.
		demand(e == api.OK && d.inUse(entry.Inode))
		list = append(list, entry)
	}
	slices.SortFunc(list, func(a, b api.Dirent) int {
		return strings.Compare(a.Name, b.Name)
	})
	for k := 1; k < len(list); k++ {
		demand(list[k-1].Name != list[k].Name)
	}
	return list
}

// checkLinks holds how often each inode is named against what it may be.
func (d *disk) checkLinks() {
	count := map[int]int{}
	for _, list := range d.names {
		for _, entry := range list {
			count[entry.Inode]++
		}
	}
	for _, i := range d.used() {
		links := d.inodes[i].Links
		switch {
		case i == root:
			demand(links == 1 && count[i] == 0)
		case d.inodes[i].Kind == api.KindDir:
			demand(links == 1 && count[i] == 1)
		default:
			demand(links >= 1 && count[i] == links)
		}
	}
}

// checkReach demands that names lead from the root to all directories. None of them is named twice, and the root not at all: so none is met again.
func (d *disk) checkReach() {
	met := []int{root}
	for k := 0; k < len(met); k++ {
		for _, entry := range d.names[met[k]] {
			if d.inodes[entry.Inode].Kind == api.KindDir {
				met = append(met, entry.Inode)
			}
		}
	}
	demand(len(met) == len(d.names))
}

// tree answers the Nodes of all paths. Names rise in each directory, and what is below a name comes ahead of the next one: that is their order.
func (d *disk) tree() []api.Node {
	var list []api.Node
	var down func(path string, i int)
	down = func(path string, i int) {
		list = append(list, d.node(path, i))
		for _, entry := range d.names[i] {
			down(path+"/"+entry.Name, entry.Inode)
		}
	}
	down("", root)
	return list
}

// node answers what is told of inode i at a path; that of the root is empty here, so that names can be put behind it.
func (d *disk) node(path string, i int) api.Node {
	x := d.inodes[i]
	n := api.Node{Path: cmp.Or(path, "/"), Kind: x.Kind, Inode: i, Links: x.Links, Size: x.Size}
	if x.Kind == api.KindFile {
		n.Data = d.content(i)
	}
	return n
}

// amount answers how many data blocks are named, and inodes in use.
func (d *disk) amount() complex128 {
	a, _ := need.Amount(len(d.named), len(d.used()))
	return a
}
