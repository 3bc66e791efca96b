package audit_test

import (
	"bytes"
	"slices"
	"testing"

	"skerry/api"
	"skerry/audit"
	"skerry/codec"
)

// fromScripts answers images that scripts have left, with empty logs and with something pending.
func fromScripts(t *testing.T, seed, count int) (list [][][]byte) {
	t.Helper()
	for n := range count {
		x := dice(seed + n)
		w := formatted(t, smallPlans(t)[n%7], &x)
		for range 60 + x.below(60) {
			w.step()
		}
		w.settle()
		list = append(list, w.image())
		for range 10 {
			w.step()
		}
		w.commit()
		list = append(list, w.image())
	}
	return list
}

// place answers a block in which something is spoilt: all that tells of the tree as likely as the many data blocks.
func place(x *dice, image [][]byte) int {
	p, _ := codec.Unsuper(image[0])
	rows := [][2]int{{0, 2}, {p.LogAt, p.Log}, {p.IBits, p.ILen}, {p.BBits, p.BLen}, {p.Table, p.TLen}, {p.Table, 1}, {p.Data, 12}, {p.Data, p.Blocks - p.Data}}
	row := rows[x.below(len(rows))]
	return min(row[0]+x.below(row[1]), p.Blocks-1)
}

// spoilt answers an image like another one, with a few bits or bytes that are other ones, or blocks that stand elsewhere too.
func spoilt(x *dice, image [][]byte) [][]byte {
	out := clone(image)
	for range 1 + x.below(3) {
		b := place(x, image)
		at := x.below(len(out[b]))
		switch x.below(6) {
		case 0:
			out[b][at] = byte(x.below(256))
		case 1:
			out[b][at] = []byte{0, 1, 2, 3, 16, 255}[x.below(6)]
		case 2:
			out[b] = bytes.Clone(image[place(x, image)])
		case 3:
			// A pointer, or the inode of a name, that may well be a block, or an inode.
			at &^= 1
			to := x.below(len(image) + 2)
			out[b][at], out[b][at+1] = byte(to), byte(to>>8)
		default:
			out[b][at] ^= 1 << x.below(8)
		}
	}
	return out
}

// TestSpoilt: P17.1 to P17.3, images that scripts have left with some bytes or bits turned: what is answered is what the chapter says, sentence by sentence.
func TestSpoilt(t *testing.T) {
	count, broken := map[string]int{}, map[string]int{}
	x := dice(77)
	for _, image := range fromScripts(t, 300, 28) {
		if agree(t, image) != "sound" {
			t.Error("a script has left an image that is not sound")
		}
		for range 80 {
			wrong := spoilt(&x, image)
			count[agree(t, wrong)]++
			if m, can := newModel(wrong); can {
				for _, sentence := range m.faults() {
					broken[sentence]++
				}
			}
		}
		if t.Failed() {
			t.FailNow()
		}
	}
	if min(count["sound"], count["unsound"], count["lost"]) < 200 || len(broken) < 20 {
		t.Errorf("images of each kind: %v; sentences: %v", count, broken)
	}
}

// TestSpoiltSheets: P17.1 to P17.3, the same of images that are written by hand, with all that is pending in the log.
func TestSpoiltSheets(t *testing.T) {
	count := map[string]int{}
	x := dice(99)
	for _, p := range smallPlans(t) {
		if p.Inodes < 12 {
			continue
		}
		image := rich(t, planned(t, p.Block, max(p.Blocks, 150), p.Inodes, p.Log)).image()
		for range 150 {
			wrong := spoilt(&x, image)
			count[agree(t, wrong)]++
			if q, e := codec.Unsuper(wrong[0]); e == api.OK && same(wrong[:q.IBits], image[:q.IBits]) {
				count[agree(t, moved(t, q, image, wrong))]++
				want(t, "Check", audit.Check(moved(t, q, wrong, image)), api.OK)
			}
		}
	}
	if min(count["sound"], count["unsound"], count["lost"]) < 50 {
		t.Errorf("images of each kind: %v", count)
	}
}

// TestAnyBytes: R1, images of any bytes whatever: each call answers, and none panics, and the answer is what the chapter says; with a superblock and a header that are read, too.
func TestAnyBytes(t *testing.T) {
	x := dice(3)
	for n := range 400 {
		p := smallPlans(t)[n%7]
		image := make([][]byte, p.Blocks)
		kind := x.below(5)
		for b := range image {
			switch kind {
			case 0:
				image[b] = bytes.Repeat([]byte{byte(n)}, p.Block)
			case 1:
				// Small numbers are taken for kinds, names and pointers sooner.
				image[b] = x.bytes(p.Block)
				for at := range image[b] {
					image[b][at] &= image[b][at] >> 4 & 3
				}
			case 2:
				image[b] = bytes.Repeat([]byte{byte(x.below(p.Blocks)), 0}, p.Block/2)
			default:
				image[b] = x.bytes(p.Block)
			}
		}
		agree(t, image)
		image[0], _ = codec.Super(p)
		agree(t, image)
		header(t, image, api.Header{Seq: x.below(9), Tail: x.below(p.Log)})
		if agree(t, image) != "unsound" {
			t.Errorf("image %d should be replayed", n)
		}
	}
}

// TestAnyTree: R1, images whose tables and bitmaps are right, and whose pointers and names are of chance: rings, blocks with pointers that name themselves, names of anything.
func TestAnyTree(t *testing.T) {
	x := dice(4)
	count := map[string]int{}
	for range 1500 {
		p := planned(t, 64, 60+x.below(60), 6, 8)
		s := newSheet(t, p)
		for b := p.Data; b < p.Blocks; b++ {
			s.blocks[b] = make([]byte, p.Block)
		}
		s.next = p.Blocks
		some := func() int { return p.Data + x.below(p.Blocks-p.Data) }
		for i := range s.inodes[1:] {
			kind := []int{api.KindFree, api.KindFile, api.KindDir, api.KindDir}[x.below(4)]
			if i == 0 {
				kind = api.KindDir
			}
			if kind == api.KindFree {
				continue
			}
			y := api.Inode{Kind: kind, Links: 1, Size: 16 * x.below(6)}
			if kind == api.KindFile {
				y.Size = x.below(50 * p.Block)
			}
			for k := range min(8, (y.Size+p.Block-1)/p.Block) {
				y.Direct[k] = some()
			}
			if y.Size > 8*p.Block {
				y.Single = some()
			}
			if y.Size > (8+per(p))*p.Block {
				y.Double = some()
			}
			s.inodes[i+1] = y
		}
		for range x.below(20) {
			s.poke(some(), x.below(p.Block/2), some())
		}
		for _, y := range s.inodes {
			for n := 0; y.Kind == api.KindDir && n < y.Size/16; n++ {
				name := []string{"a", "b", "c", "d", "e", "f", "g"}[(n+x.below(2))%7]
				copy(s.blocks[y.Direct[n*16/p.Block]][n*16%p.Block:], dirent(name, 1+x.below(p.Inodes)))
			}
		}
		count[agree(t, s.image())]++
	}
	if count["lost"] > 0 || count["unsound"] < 1000 {
		t.Errorf("images of each kind: %v", count)
	}
}

// TestAnyShape: R1, lists of blocks of any number and length.
func TestAnyShape(t *testing.T) {
	x := dice(6)
	for range 3000 {
		image := make([][]byte, x.below(40))
		for b := range image {
			image[b] = x.bytes([]int{0, 1, 12, 32, 63, 64, 65, 128, 4096}[x.below(9)])
		}
		if len(image) > 0 && x.below(2) == 0 {
			p := planned(t, 64, 20+x.below(30), 2+x.below(3), 4)
			image[0], _ = codec.Super(p)
			image = append(image, slices.Repeat([][]byte{make([]byte, 64)}, max(0, p.Blocks-len(image)))...)
		}
		agree(t, image)
	}
}
