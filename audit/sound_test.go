package audit_test

import (
	"bytes"
	"fmt"
	"testing"

	"skerry/api"
	"skerry/audit"
	"skerry/plan"
)

// fault is a way to spoil a sound sheet, before or behind its bitmaps are made, and the sentences that are not true then.
type fault struct {
	name  string
	spoil func(s *sheet)
	after func(p api.Plan, image [][]byte)
	broke []string
}

// wantFault holds that a fault is found, whether it stands in its place or is pending in the log, and that it is none where the log mends it.
func wantFault(t *testing.T, p api.Plan, f fault) {
	t.Helper()
	sound := rich(t, p).image()
	s := rich(t, p)
	if f.spoil != nil {
		f.spoil(s)
	}
	image := s.image()
	if f.after != nil {
		f.after(p, image)
	}
	wantFaults(t, image, f.broke...)
	wantUnsound(t, image)
	wantReplay(t, image, image)
	pending := moved(t, p, sound, image)
	wantFaults(t, pending, f.broke...)
	wantUnsound(t, pending)
	wantFaults(t, moved(t, p, image, sound))
	if t.Failed() {
		t.Fatalf("%s, of blocks of %d", f.name, p.Block)
	}
}

// inodeFaults: the sentences on inodes.
func inodeFaults(p api.Plan) []fault {
	raw := func(i, at int, c byte) func(p api.Plan, image [][]byte) {
		return func(p api.Plan, image [][]byte) { rawInode(p, image, i)[at] = c }
	}
	var list []fault
	for _, i := range []int{0, 9, p.Inodes - 1} {
		list = append(list,
			fault{"a kind that is none", nil, raw(i, 0, 3), []string{isRead}}, fault{"the kind 255", nil, raw(i, 0, 255), []string{isRead}},
			fault{"a free inode with Links", nil, raw(i, 2, 1), []string{isRead}}, fault{"with Size", nil, raw(i, 7, 1), []string{isRead}},
			fault{"with a block", nil, raw(i, 8, byte(p.Data)), []string{isRead}}, fault{"with Double", nil, raw(i, 26, byte(p.Data)), []string{isRead}},
			fault{"with bytes behind", nil, raw(i, 31, 1), []string{isRead}})
	}
	for at := 28; at < 32; at++ {
		// What is not read is no file, so its names and blocks are nobody's.
		list = append(list, fault{"bytes behind an inode in use", func(s *sheet) { s.inodes[7].Size = 0 }, raw(7, at, 1), []string{isRead, inodeBits, namesUsed}})
	}
	list = append(list,
		fault{"a byte 1 behind Kind", nil, raw(8, 1, 1), []string{isRead, inodeBits, namesUsed}},
		fault{"inode 0 is a file", func(s *sheet) { s.inodes[0] = api.Inode{Kind: api.KindFile, Links: 1} }, nil, []string{zeroFree, fileLinks, fileNamed}},
		fault{"inode 0 is a file without Links", func(s *sheet) { s.inodes[0] = api.Inode{Kind: api.KindFile} }, nil, []string{zeroFree, fileNamed}},
		fault{"inode 0 is a directory", func(s *sheet) { s.inodes[0] = api.Inode{Kind: api.KindDir, Links: 1} }, nil, []string{zeroFree, dirOnce, dirReached}})
	if end := p.TLen * p.Block / 32; end > p.Inodes {
		for _, i := range []int{p.Inodes, end - 1} {
			for _, at := range []int{0, 7, 31} {
				list = append(list, fault{"a byte behind the last inode", nil, raw(i, at, 1<<(at%8)), []string{tableEnd}})
			}
		}
	}
	return list
}

// TestInodeFaults: P17.1, each sentence on inodes.
func TestInodeFaults(t *testing.T) {
	wantAllFaults(t, inodeFaults)
}

// TestTableEnd: P17.1, each byte of the table behind the last inode is 0.
func TestTableEnd(t *testing.T) {
	count := 0
	for _, p := range plans(t) {
		image := rich(t, p).image()
		for n := p.Inodes * 32; n < p.TLen*p.Block; n++ {
			if p.Block > 512 && n%37 != 0 {
				continue
			}
			count++
			b, at := p.Table+n/p.Block, n%p.Block
			image[b][at] = 1 << (n % 8)
			if e := audit.Check(image); e != api.ErrCorrupt {
				t.Errorf("byte %d of a table of %d: Check is %d", n, p.Inodes, e)
			}
			image[b][at] = 0
		}
		want(t, "Check", audit.Check(image), api.OK)
	}
	if count < 200 {
		t.Errorf("only %d bytes behind the last inodes", count)
	}
}

// TestEveryBit: P17.1, a sound image of which one bit of the bitmaps is turned is not sound any more: one too many, one too few, behind Inodes and behind Blocks too.
func TestEveryBit(t *testing.T) {
	for _, p := range plans(t) {
		image := rich(t, p).image()
		check := func(from, n int, sentence string) {
			t.Helper()
			for bit := range n {
				if p.Block > 64 && bit > p.Blocks+20 && bit%101 != 0 && bit != n-1 {
					continue
				}
				turn(image, from, bit)
				if e := audit.Check(image); e != api.ErrCorrupt {
					t.Errorf("%s, bit %d: Check is %d", sentence, bit, e)
				}
				if bit%97 == 0 {
					wantUnsound(t, image)
					wantFaults(t, image, sentence)
				}
				turn(image, from, bit)
			}
		}
		check(p.IBits, 8*p.Block*p.ILen, inodeBits)
		check(p.BBits, 8*p.Block*p.BLen, blockBits)
		wantFaults(t, image)
	}
	// Bitmaps of several blocks, both of them.
	p := planned(t, 64, 2000, 1000, 20)
	image := newSheet(t, p).image()
	for bit := range 1024 {
		turn(image, p.IBits, bit)
		want(t, "Check", audit.Check(image), api.ErrCorrupt)
		turn(image, p.IBits, bit)
	}
	for bit := range 2048 {
		turn(image, p.BBits, bit)
		want(t, "Check", audit.Check(image), api.ErrCorrupt)
		turn(image, p.BBits, bit)
	}
	want(t, "Check", audit.Check(image), api.OK)
}

// TestSizes: P17.1, Size is at most MaxSize; at it an image is sound still.
func TestSizes(t *testing.T) {
	for _, p := range plans(t) {
		most, e := plan.MaxSize(p)
		want(t, "MaxSize", e, api.OK)
		for _, size := range []int{most, most - 1, 1, 0} {
			s := rich(t, p)
			s.inodes[7].Size = size
			wantFaults(t, s.image())
			agree(t, s.image())
		}
		for _, size := range []int{most + 1, most + p.Block, 2 * most, 1 << 24, 1<<31 - 1, 1 << 31, 1<<32 - 1} {
			wantFault(t, p, fault{fmt.Sprint("a file of ", size), func(s *sheet) { s.inodes[7].Size = size }, nil, []string{greatSize}})
			wantFault(t, p, fault{fmt.Sprint("a file with blocks of ", size), func(s *sheet) { s.inodes[4].Size = size }, nil, []string{greatSize}})
		}
	}
}

// slot is a pointer, of some kind, of inode 9.
type slot struct {
	kind string
	set  func(s *sheet, b int)
}

// slots answers a pointer of each kind, which inode 9 has when laid has been done; its Size reaches behind all of them.
func slots(p api.Plan) []slot {
	list := []slot{
		{"direct", func(s *sheet, b int) { s.inodes[9].Direct[0] = b }}, {"last direct", func(s *sheet, b int) { s.inodes[9].Direct[7] = b }},
		{"single", func(s *sheet, b int) { s.inodes[9].Single = b }},
		{"in single", func(s *sheet, b int) { s.point(9, 8+3, b) }}, {"first in single", func(s *sheet, b int) { s.point(9, 8, b) }},
	}
	if last := min(8+per(p), most(p)/p.Block) - 1; last > 8 {
		list = append(list, slot{"last in single", func(s *sheet, b int) { s.point(9, last, b) }})
	}
	if doubles(p) {
		list = append(list, slot{"double", func(s *sheet, b int) { s.inodes[9].Double = b }},
			slot{"in double", func(s *sheet, b int) { s.inner(9, 0); s.poke(s.inodes[9].Double, 1, b) }},
			slot{"named by double", func(s *sheet, b int) { s.poke(s.inner(9, 0), 1, b) }}, slot{"last named by double", func(s *sheet, b int) { s.poke(s.inner(9, 0), per(p)-1, b) }})
	}
	return list
}

// tenth lets inode 9 be a file of the greatest size, all holes.
func tenth(s *sheet) {
	s.born(1, "holes", 9, api.KindFile)
	s.inodes[9].Size = most(s.p)
}

// TestPointers: P17.1, a pointer of whatever kind is 0, or a data block: all others are not sound.
func TestPointers(t *testing.T) {
	for _, p := range plans(t) {
		for _, at := range slots(p) {
			for _, b := range []int{1, 2, p.LogAt, p.IBits, p.BBits, p.Table, p.Data - 1, p.Blocks, p.Blocks + 1, p.Blocks + 4096, 65535} {
				wantFault(t, p, fault{at.kind, func(s *sheet) {
					tenth(s)
					at.set(s, b)
				}, nil, []string{dataBlocks}})
			}
			s := rich(t, p)
			tenth(s)
			at.set(s, 0)
			wantFaults(t, s.image())
			// The first and the last data block may be named.
			s = newSheet(t, p)
			s.next = p.Data + 1
			tenth(s)
			s.blocks[p.Data] = make([]byte, p.Block)
			s.blocks[p.Blocks-1] = make([]byte, p.Block)
			for _, b := range []int{p.Data, p.Blocks - 1} {
				at.set(s, b)
				wantFaults(t, s.image())
				agree(t, s.image())
			}
		}
	}
}

// TestNamedTwice: P17.1, one block that is named by pointers of every two kinds, of one file and of two.
func TestNamedTwice(t *testing.T) {
	for _, p := range plans(t) {
		list := slots(p)
		for m, one := range list {
			for _, two := range list[m+1:] {
				s := rich(t, p)
				tenth(s)
				// In this order: a pointer to pointers comes ahead of those in its block, which would be forgotten with it.
				b := s.take()
				one.set(s, b)
				wantFaults(t, s.image())
				two.set(s, b)
				checkTwice(t, p, one.kind+" and "+two.kind, s)
			}
		}
		for _, at := range list {
			for kind, taken := range map[string]func(s *sheet) int{
				"a file's block": func(s *sheet) int { return s.inodes[4].Direct[2] }, "a file's Single": func(s *sheet) int { return s.inodes[4].Single }, "a block in a file's Single": func(s *sheet) int { return s.peek(s.inodes[4].Single, 0) },
				"a directory's block": func(s *sheet) int { return s.inodes[3].Direct[0] }, "the root's block": func(s *sheet) int { return s.inodes[1].Direct[0] }, "a file's only block": func(s *sheet) int { return s.inodes[2].Direct[0] },
			} {
				s := rich(t, p)
				tenth(s)
				at.set(s, taken(s))
				checkTwice(t, p, at.kind+" and "+kind, s)
			}
		}
	}
}

// checkTwice holds that an image is not sound for a block that is named twice, among other things maybe: where what has bytes or names is taken for pointers.
func checkTwice(t *testing.T, p api.Plan, kinds string, s *sheet) {
	t.Helper()
	image := s.image()
	m, can := newModel(image)
	if !can || !m.broken[namedOnce] {
		t.Errorf("%s, of blocks of %d: no block is named twice: %q", kinds, p.Block, m.faults())
	}
	wantUnsound(t, image)
}

// TestTwiceAlone: P17.1, a block that is named twice, and nothing else is wrong: of two direct ones, of two files, of files and directories, of pointers to pointers; a block with pointers that names itself, and one that names what is above it.
func TestTwiceAlone(t *testing.T) {
	for _, p := range plans(t) {
		list := []fault{
			{"two direct", func(s *sheet) { b := s.take(); s.inodes[9].Direct[0], s.inodes[9].Direct[5] = b, b }, nil, nil},
			{"direct and single", func(s *sheet) { b := s.take(); s.inodes[9].Direct[0], s.inodes[9].Single = b, b }, nil, nil},
			{"direct and in single", func(s *sheet) { b := s.take(); s.inodes[9].Direct[0] = b; s.point(9, 8, b) }, nil, nil},
			{"two in single", func(s *sheet) { b := s.take(); s.point(9, 9, b); s.point(9, 10, b) }, nil, nil},
			{"of two files", func(s *sheet) { s.inodes[9].Direct[0] = s.inodes[2].Direct[0] }, nil, nil},
			{"of a file and a directory", func(s *sheet) { s.inodes[9].Direct[0] = s.inodes[3].Direct[0] }, nil, nil},
			{"of a file and the root", func(s *sheet) { s.inodes[9].Direct[0] = s.inodes[1].Direct[0] }, nil, nil},
			{"the Single of two files", func(s *sheet) { s.inodes[9].Single = s.inodes[4].Single }, nil, nil},
			{"a Single that names itself", func(s *sheet) { s.point(9, 8, s.take()); s.poke(s.inodes[9].Single, 4, s.inodes[9].Single) }, nil, nil},
		}
		if doubles(p) {
			list = append(list,
				fault{"single and double", func(s *sheet) { b := s.take(); s.inodes[9].Single, s.inodes[9].Double = b, b }, nil, nil},
				fault{"direct and double", func(s *sheet) { b := s.take(); s.inodes[9].Direct[7], s.inodes[9].Double = b, b }, nil, nil},
				fault{"single and in double", func(s *sheet) { s.inodes[9].Single = s.inner(9, 0) }, nil, nil},
				fault{"two in double", func(s *sheet) { s.poke(s.inodes[9].Double, 1, s.inner(9, 0)) }, func(p api.Plan, image [][]byte) {}, nil},
				fault{"in single and in double", func(s *sheet) { s.point(9, 8, s.inner(9, 0)) }, nil, nil},
				fault{"direct and named by double", func(s *sheet) { b := s.take(); s.inodes[9].Direct[1] = b; s.poke(s.inner(9, 1), 0, b) }, nil, nil},
				fault{"in single and named by double", func(s *sheet) { b := s.take(); s.point(9, 8, b); s.poke(s.inner(9, 0), 2, b) }, nil, nil},
				fault{"two named by double", func(s *sheet) { b := s.take(); s.poke(s.inner(9, 0), 2, b); s.poke(s.inner(9, 1), 2, b) }, nil, nil},
				fault{"one that names itself", func(s *sheet) { s.poke(s.inner(9, 0), 3, s.inner(9, 0)) }, nil, nil},
				fault{"one that names Double", func(s *sheet) { s.poke(s.inner(9, 0), 3, s.inodes[9].Double) }, nil, nil},
			)
		}
		for _, f := range list {
			spoil := f.spoil
			f.spoil = func(s *sheet) {
				tenth(s)
				if doubles(p) {
					s.inner(9, 0)
				}
				spoil(s)
			}
			f.broke = []string{namedOnce}
			wantFault(t, p, f)
		}
		if doubles(p) {
			// Double names itself: what it names is a block with pointers then, that names itself as a data block.
			s := rich(t, p)
			tenth(s)
			s.inner(9, 0)
			s.poke(s.inodes[9].Double, 0, s.inodes[9].Double)
			wantFaults(t, s.image(), namedOnce)
			agree(t, s.image())
		}
	}
}

// numbers answers block numbers at the edges of ways.
func numbers(p api.Plan) []int {
	var list []int
	whole := most(p) / p.Block
	for _, n := range []int{0, 1, 6, 7, 8, 9, 20, 8 + per(p) - 1, 8 + per(p), 8 + per(p) + 1, 8 + 2*per(p) - 1, 8 + 2*per(p), 8 + 2*per(p) + 1, 8 + 3*per(p), whole - 2, whole - 1} {
		if n < whole && n >= 0 {
			list = append(list, n)
		}
	}
	return list
}

// TestBehindSize: P17.1, a pointer to block number n, with n times Block not below Size, is 0: with one byte more the block may be there, with that many it may not.
func TestBehindSize(t *testing.T) {
	for _, p := range plans(t) {
		for _, n := range numbers(p) {
			for _, size := range []int{n*p.Block + 1, (n + 1) * p.Block, n*p.Block + p.Block/2} {
				s := rich(t, p)
				s.born(1, "f", 9, api.KindFile)
				s.point(9, n, s.take())
				s.inodes[9].Size = size
				wantFaults(t, s.image())
				agree(t, s.image())
			}
			for _, size := range []int{n * p.Block, max(0, n*p.Block-1), max(0, n-1) * p.Block, 0} {
				broke := []string{behindSize}
				if n >= 8 && size <= 8*p.Block || n >= 8+per(p) && size <= (8+per(p)+(n-8-per(p))/per(p)*per(p))*p.Block {
					broke = append(broke, waysBehind)
				}
				wantFault(t, p, fault{fmt.Sprint("block ", n, " behind ", size), func(s *sheet) {
					s.born(1, "f", 9, api.KindFile)
					s.point(9, n, s.take())
					s.inodes[9].Size = size
				}, nil, broke})
			}
		}
	}
}

// TestWaysBehindSize: P17.1, a block with pointers, all of them 0, may be there just if some number on its ways lies ahead of Size.
func TestWaysBehindSize(t *testing.T) {
	for _, p := range plans(t) {
		single := func(s *sheet) { s.inodes[9].Single = s.take() }
		double := func(s *sheet) { s.inodes[9].Double = s.take() }
		ways := map[int]func(s *sheet){8: single, 8 + per(p): double}
		for k := range 5 {
			ways[8+per(p)+k*per(p)] = func(s *sheet) { s.inner(9, k) }
		}
		ways[8+per(p)] = double
		for first, lay := range ways {
			size := first * p.Block
			file := func(size int) func(s *sheet) {
				return func(s *sheet) {
					s.born(1, "f", 9, api.KindFile)
					lay(s)
					s.inodes[9].Size = size
				}
			}
			for _, wrong := range []int{size, size - 1, size - p.Block, 1, 0} {
				if wrong <= most(p) {
					wantFault(t, p, fault{fmt.Sprint("pointers to ", first, " behind ", wrong), file(wrong), nil, []string{waysBehind}})
				}
			}
			for _, right := range []int{size + 1, size + p.Block, most(p)} {
				s := rich(t, p)
				file(right)(s)
				if right > size && right <= most(p) {
					wantFaults(t, s.image())
					agree(t, s.image())
				}
			}
		}
		// Where no file is so great, Double is 0 whatever Size is.
		if !doubles(p) {
			wantFault(t, p, fault{"Double that no file has", func(s *sheet) { tenth(s); double(s) }, nil, []string{waysBehind}})
		}
	}
}

// TestBehindMaxSize: P17.1, pointers of Single, and in what Double names, that lie behind MaxSize, where a block has room for them.
func TestBehindMaxSize(t *testing.T) {
	for _, p := range plans(t) {
		whole := most(p) / p.Block
		if whole >= 8+per(p)+per(p)*per(p) {
			continue
		}
		for _, n := range []int{whole, whole + 1, (whole/per(p)+1)*per(p) + 7} {
			s := rich(t, p)
			tenth(s)
			s.point(9, n, s.take())
			image := s.image()
			if m, _ := newModel(image); !m.broken[behindSize] {
				t.Errorf("block number %d is not behind the greatest size", n)
			}
			wantUnsound(t, image)
		}
		s := rich(t, p)
		tenth(s)
		s.point(9, whole-1, s.take())
		wantFaults(t, s.image())
	}
}

// TestDirPointers: P17.1, the sentences on blocks hold for directories too.
func TestDirPointers(t *testing.T) {
	for _, p := range plans(t) {
		for _, f := range []fault{
			{"a block behind Size", func(s *sheet) { s.inodes[8].Direct[0] = s.take() }, nil, []string{behindSize}},
			{"a second block", func(s *sheet) { s.inodes[3].Direct[1] = s.take() }, nil, []string{behindSize}},
			{"Single", func(s *sheet) { s.inodes[1].Single = s.take() }, nil, []string{waysBehind}},
			{"Double", func(s *sheet) { s.inodes[5].Double = s.take() }, nil, []string{waysBehind}},
			{"no data block", func(s *sheet) { s.inodes[8].Direct[0] = p.Data - 1 }, nil, []string{behindSize, dataBlocks}},
			{"a free inode's Size", func(s *sheet) { s.inodes[8].Size = most(p) + 16 }, nil, []string{greatSize, noHole, noZero}},
		} {
			wantFault(t, p, f)
		}
	}
}

// TestAnyFreeBlock: P17.1, what stands in data blocks that are nobody's, and in the log's blocks that are not in use, is of no matter.
func TestAnyFreeBlock(t *testing.T) {
	x := dice(8)
	for _, p := range plans(t) {
		s := rich(t, p)
		image := s.image()
		m, _ := newModel(image)
		for b := p.LogAt; b < p.Blocks; b++ {
			if b < p.IBits || b >= s.next {
				image[b] = bytes.Repeat([]byte{byte(x.below(256))}, p.Block)
			}
		}
		wantSound(t, image, m.nodes(), m.amount())
	}
}
