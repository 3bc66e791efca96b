package audit_test

import (
	"bytes"
	"fmt"
	"slices"
	"testing"

	"skerry/api"
	"skerry/audit"
	"skerry/codec"
	"skerry/plan"
)

// rubble is what stands in all blocks that nothing was written to.
const rubble = 0xa7

// planned answers a plan that must be there.
func planned(t *testing.T, block, blocks, inodes, log int) api.Plan {
	t.Helper()
	p, e := plan.Make(block, blocks, inodes, log)
	if e != api.OK {
		t.Fatalf("plan.Make(%d, %d, %d, %d): %d", block, blocks, inodes, log, e)
	}
	return p
}

// plans answers plans with every size of a block, with bitmaps of several blocks, and with tables that the inodes fill and do not fill.
func plans(t *testing.T) []api.Plan {
	t.Helper()
	var list []api.Plan
	for _, n := range [][4]int{
		{64, 300, 20, 60}, {64, 1300, 21, 80}, {128, 300, 30, 60}, {256, 200, 33, 50}, {512, 150, 40, 40}, {1024, 120, 64, 30}, {2048, 100, 65, 30}, {4096, 80, 130, 25},
	} {
		list = append(list, planned(t, n[0], n[1], n[2], n[3]))
	}
	return list
}

// per answers how many pointers a block has.
func per(p api.Plan) int {
	return p.Block / 2
}

// most answers how many bytes a file has at most, counted by hand.
func most(p api.Plan) int {
	return min(524288, p.Block*(8+per(p)+per(p)*per(p)))
}

// doubles answers whether a file of that plan may be so great that its Double is used.
func doubles(p api.Plan) bool {
	return (8+per(p))*p.Block < most(p)
}

// sheet is a device that is written by hand: its inodes, and its data blocks. All else follows from these.
type sheet struct {
	t      *testing.T
	p      api.Plan
	inodes []api.Inode
	blocks map[int][]byte
	next   int
}

// newSheet answers a sheet of one directory, the root, without names.
func newSheet(t *testing.T, p api.Plan) *sheet {
	s := &sheet{t: t, p: p, inodes: make([]api.Inode, p.Inodes), blocks: map[int][]byte{}, next: p.Data}
	s.inodes[1] = api.Inode{Kind: api.KindDir, Links: 1}
	return s
}

// take answers a block of bytes 0 that was nobody's.
func (s *sheet) take() int {
	s.t.Helper()
	b := s.next
	if b >= s.p.Blocks {
		s.t.Fatal("the sheet is full")
	}
	s.next++
	s.blocks[b] = make([]byte, s.p.Block)
	return b
}

// peek answers pointer number k of a block.
func (s *sheet) peek(b, k int) int {
	data := s.blocks[b]
	return int(data[2*k]) | int(data[2*k+1])<<8
}

// poke lets pointer number k of a block be another one.
func (s *sheet) poke(b, k, to int) {
	copy(s.blocks[b][2*k:], []byte{byte(to), byte(to >> 8)})
}

// inner answers the block with pointers that pointer number k of Double names; it is taken, if there is none.
func (s *sheet) inner(i, k int) int {
	s.t.Helper()
	x := &s.inodes[i]
	if x.Double == 0 {
		x.Double = s.take()
	}
	if s.peek(x.Double, k) == 0 {
		s.poke(x.Double, k, s.take())
	}
	return s.peek(x.Double, k)
}

// point lets block number index of an inode be b, whatever its Size; blocks with pointers are taken.
func (s *sheet) point(i, index, b int) {
	s.t.Helper()
	x, n := &s.inodes[i], per(s.p)
	switch {
	case index < 8:
		x.Direct[index] = b
	case index < 8+n:
		if x.Single == 0 {
			x.Single = s.take()
		}
		s.poke(x.Single, index-8, b)
	default:
		index -= 8 + n
		s.poke(s.inner(i, index/n), index%n, b)
	}
}

// find answers block number index of an inode, or 0.
func (s *sheet) find(i, index int) int {
	x, n := s.inodes[i], per(s.p)
	switch {
	case index < 8:
		return x.Direct[index]
	case index < 8+n:
		if x.Single == 0 {
			return 0
		}
		return s.peek(x.Single, index-8)
	}
	index -= 8 + n
	if x.Double == 0 || s.peek(x.Double, index/n) == 0 {
		return 0
	}
	return s.peek(s.peek(x.Double, index/n), index%n)
}

// write lets bytes stand in an inode, whose Size grows with them; what is passed by is a hole.
func (s *sheet) write(i, at int, data []byte) {
	s.t.Helper()
	for k := 0; k < len(data); {
		index, in := (at+k)/s.p.Block, (at+k)%s.p.Block
		b := s.find(i, index)
		if b == 0 {
			b = s.take()
			s.point(i, index, b)
		}
		k += copy(s.blocks[b][in:], data[k:])
	}
	s.inodes[i].Size = max(s.inodes[i].Size, at+len(data))
}

// enter lets a directory have one more name, behind the others; Links is left as it is.
func (s *sheet) enter(d int, name string, i int) {
	s.t.Helper()
	s.write(d, s.inodes[d].Size, dirent(name, i))
}

// born lets an inode be in use, with a name in a directory.
func (s *sheet) born(d int, name string, i, kind int) {
	s.t.Helper()
	s.inodes[i] = api.Inode{Kind: kind, Links: 1}
	s.enter(d, name, i)
}

// link lets a file have one more name.
func (s *sheet) link(d int, name string, i int) {
	s.t.Helper()
	s.enter(d, name, i)
	s.inodes[i].Links++
}

// dirent answers 16 bytes of a name, whatever name it is.
func dirent(name string, i int) []byte {
	raw := make([]byte, 16)
	raw[0], raw[1] = byte(i), byte(i>>8)
	copy(raw[2:15], name)
	return raw
}

// named answers the data blocks that are named on the sheet, by whatever pointers.
func (s *sheet) named() []int {
	var list []int
	down := func(b int, deep int) {}
	down = func(b, deep int) {
		if b < s.p.Data || b >= s.p.Blocks {
			return
		}
		list = append(list, b)
		if s.blocks[b] == nil || deep == 0 {
			return
		}
		for k := range per(s.p) {
			down(s.peek(b, k), deep-1)
		}
	}
	for _, x := range s.inodes {
		for _, b := range x.Direct {
			down(b, 0)
		}
		down(x.Single, 1)
		down(x.Double, 2)
	}
	return list
}

// image answers the sheet as a device with an empty log has it: both bitmaps are as the inodes and pointers ask for, and rubble stands in what is nobody's.
func (s *sheet) image() [][]byte {
	s.t.Helper()
	image := make([][]byte, s.p.Blocks)
	for b := range image {
		fill := byte(rubble)
		if b >= s.p.IBits && b < s.p.Data {
			fill = 0
		}
		image[b] = bytes.Repeat([]byte{fill}, s.p.Block)
	}
	super, e := codec.Super(s.p)
	want(s.t, "Super", e, api.OK)
	copy(image[0], super)
	header(s.t, image, api.Header{Seq: 1})
	for b, data := range s.blocks {
		copy(image[b], data)
	}
	turn(image, s.p.IBits, 0)
	turn(image, s.p.IBits, 1)
	for i, x := range s.inodes {
		raw, e := codec.Inode(x)
		want(s.t, "Inode", e, api.OK)
		copy(rawInode(s.p, image, i), raw)
		if x.Kind != api.KindFree && i > 1 {
			turn(image, s.p.IBits, i)
		}
	}
	for b := range s.p.Data {
		turn(image, s.p.BBits, b)
	}
	on := s.named()
	slices.Sort(on)
	for _, b := range slices.Compact(on) {
		turn(image, s.p.BBits, b)
	}
	return image
}

// rawInode answers the 32 bytes of an inode, as they stand in an image.
func rawInode(p api.Plan, image [][]byte, i int) []byte {
	each := p.Block / 32
	return image[p.Table+i/each][i%each*32:][:32]
}

// turn turns a bit of the bitmap that begins with the block from.
func turn(image [][]byte, from, bit int) {
	each := 8 * len(image[0])
	image[from+bit/each][bit%each/8] ^= 1 << (bit % 8)
}

// header lets the log of an image have this header.
func header(t *testing.T, image [][]byte, h api.Header) {
	t.Helper()
	raw, e := codec.Header(h, len(image[0]))
	want(t, "Header", e, api.OK)
	image[1] = raw
}

// logged answers an image like base, whose log has these writes pending, in so many parts as need be, from tail on.
func logged(t *testing.T, p api.Plan, base [][]byte, tail int, list []api.Write) [][]byte {
	t.Helper()
	image := clone(base)
	h := api.Header{Seq: 7, Tail: tail}
	put := func(data []byte) {
		image[p.LogAt+(h.Tail+h.Used)%p.Log] = bytes.Clone(data)
		h.Used++
	}
	for part := range slices.Chunk(list, (p.Block-10)/2) {
		var blocks []int
		for _, w := range part {
			blocks = append(blocks, w.Block)
		}
		desc, e := codec.Desc(h.Seq, blocks, p.Block)
		want(t, "Desc", e, api.OK)
		put(desc)
		for _, w := range part {
			put(w.Data)
		}
		h.Seq++
	}
	if h.Used > p.Log {
		t.Fatalf("a log of %d has no room for %d", p.Log, h.Used)
	}
	header(t, image, h)
	return image
}

// moved answers an image like from, whose log makes to of it, but for the log.
func moved(t *testing.T, p api.Plan, from, to [][]byte) [][]byte {
	t.Helper()
	var list []api.Write
	for b := p.IBits; b < p.Blocks; b++ {
		if !bytes.Equal(from[b], to[b]) {
			list = append(list, api.Write{Block: b, Data: to[b]})
		}
	}
	return logged(t, p, from, p.Log-1, list)
}

// rich answers a sheet with files and directories of many kinds:
//
//	/ 1, /a 2, /b 3, /b/again 2, /b/c 4 (Single), /b/d 5, /b/d/e 6 (sparse, Double where there is one), /empty 8, /z 7 (no bytes)
func rich(t *testing.T, p api.Plan) *sheet {
	t.Helper()
	s := newSheet(t, p)
	s.born(1, "z", 7, api.KindFile)
	s.born(1, "a", 2, api.KindFile)
	s.born(1, "b", 3, api.KindDir)
	s.born(3, "d", 5, api.KindDir)
	s.born(3, "c", 4, api.KindFile)
	s.born(1, "empty", 8, api.KindDir)
	s.born(5, "e", 6, api.KindFile)
	s.link(3, "again", 2)
	s.write(2, 0, []byte("some bytes"))
	s.write(4, 0, bytes.Repeat([]byte("0123456789abc"), (9*p.Block+20)/13))
	s.write(6, 2*p.Block+3, []byte("two"))
	s.write(6, 10*p.Block, []byte("ten"))
	if doubles(p) {
		s.write(6, (8+per(p)+1)*p.Block-2, []byte("edge"))
		s.write(6, (8+2*per(p)+3)*p.Block, []byte("far"))
	}
	return s
}

// clone answers an image like another one, in memory of its own.
func clone(image [][]byte) [][]byte {
	list := make([][]byte, len(image))
	for b := range image {
		list[b] = bytes.Clone(image[b])
	}
	return list
}

// same answers whether two images have the same blocks.
func same(a, b [][]byte) bool {
	return slices.EqualFunc(a, b, bytes.Equal)
}

// want holds what a call answered against what it should.
func want(t *testing.T, call string, got, wanted api.Errno) {
	t.Helper()
	if got != wanted {
		t.Errorf("%s: %d, should be %d", call, got, wanted)
	}
}

// node answers a Node of these values.
func node(path string, kind, inode, links, size int, data []byte) api.Node {
	return api.Node{Path: path, Kind: kind, Inode: inode, Links: links, Size: size, Data: data}
}

// sameNodes answers whether two lists tell the same tree.
func sameNodes(a, b []api.Node) bool {
	return slices.EqualFunc(a, b, func(x, y api.Node) bool {
		return bytes.Equal(x.Data, y.Data) && head(x) == head(y)
	})
}

// head answers all of a Node but its bytes, as one value that can be compared.
func head(n api.Node) string {
	return fmt.Sprint(n.Path, n.Kind, n.Inode, n.Links, n.Size)
}

// heads tells Nodes without their bytes.
func heads(list []api.Node) []string {
	var told []string
	for _, n := range list {
		told = append(told, head(n))
	}
	return told
}

// wantUnsound holds that an image is told to be unsound by all that ask for that.
func wantUnsound(t *testing.T, image [][]byte) {
	t.Helper()
	want(t, "Check", audit.Check(image), api.ErrCorrupt)
	list, e := audit.Dump(image)
	want(t, "Dump", e, api.ErrCorrupt)
	if len(list) != 0 {
		t.Errorf("Dump beside an error: %d nodes", len(list))
	}
	a, e := audit.Used(image)
	want(t, "Used", e, api.ErrCorrupt)
	if a != 0 {
		t.Errorf("Used beside an error: %v", a)
	}
}

// wantLost holds that an image cannot even be replayed.
func wantLost(t *testing.T, image [][]byte) {
	t.Helper()
	list, e := audit.Replay(image)
	want(t, "Replay", e, api.ErrCorrupt)
	if len(list) != 0 {
		t.Errorf("Replay beside an error: %d blocks", len(list))
	}
	wantUnsound(t, image)
}

// wantReplay holds what Replay answers against what it should.
func wantReplay(t *testing.T, image, wanted [][]byte) {
	t.Helper()
	got, e := audit.Replay(image)
	want(t, "Replay", e, api.OK)
	if len(got) != len(wanted) {
		t.Errorf("Replay: %d blocks, should be %d", len(got), len(wanted))
		return
	}
	for b := range got {
		if !bytes.Equal(got[b], wanted[b]) {
			t.Errorf("Replay: block %d is %.20v, should be %.20v", b, got[b], wanted[b])
			return
		}
	}
}

// wantSound holds that an image is sound, and that it is that tree.
func wantSound(t *testing.T, image [][]byte, nodes []api.Node, used complex128) {
	t.Helper()
	want(t, "Check", audit.Check(image), api.OK)
	list, e := audit.Dump(image)
	want(t, "Dump", e, api.OK)
	if !sameNodes(list, nodes) {
		t.Errorf("Dump: %v, should be %v", heads(list), heads(nodes))
	}
	a, e := audit.Used(image)
	want(t, "Used", e, api.OK)
	if a != used {
		t.Errorf("Used: %v, should be %v", a, used)
	}
}

// dice are numbers that look like chance, the same ones each time.
type dice uint64

func (x *dice) below(n int) int {
	*x = *x*6364136223846793005 + 1442695040888963407
	return int(uint64(*x) >> 33 % uint64(n))
}

// bytes answers n bytes of chance.
func (x *dice) bytes(n int) []byte {
	list := make([]byte, n)
	for i := range list {
		list[i] = byte(x.below(256))
	}
	return list
}
