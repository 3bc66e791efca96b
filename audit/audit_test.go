package audit_test

import (
	"bytes"
	"fmt"
	"slices"
	"strings"
	"testing"

	"skerry/api"
	"skerry/audit"
	"skerry/codec"
	"skerry/device"
	"skerry/walk"
)

// TestExample: P17.1 to P17.3, the chapter's example: a device that has nothing but its root.
func TestExample(t *testing.T) {
	for _, p := range plans(t) {
		image := newSheet(t, p).image()
		wantSound(t, image, []api.Node{{Path: "/", Kind: 2, Inode: 1, Links: 1, Size: 0}}, 1i)
		wantReplay(t, image, image)
	}
}

// TestImageNil: P17.1, Image of no device.
func TestImageNil(t *testing.T) {
	image, e := audit.Image(nil)
	want(t, "Image", e, api.ErrArg)
	if len(image) != 0 {
		t.Errorf("Image beside an error: %v", image)
	}
}

// wantImage holds what Image answers against what is read block by block.
func wantImage(t *testing.T, d *device.Device) [][]byte {
	t.Helper()
	image, e := audit.Image(d)
	want(t, "Image", e, api.OK)
	if len(image) != d.Blocks() {
		t.Fatalf("Image: %d blocks, should be %d", len(image), d.Blocks())
	}
	for b := range image {
		if data, _ := d.Read(b); !bytes.Equal(image[b], data) {
			t.Errorf("Image: block %d is %v, should be %v", b, image[b], data)
		}
	}
	return image
}

// TestImage: P17.1, the blocks are the last writes, whether they wait or have arrived, on devices of all sizes, with what is no file system too.
func TestImage(t *testing.T) {
	x := dice(5)
	for _, n := range [][2]int{{64, 1}, {64, 2}, {64, 4096}, {128, 7}, {256, 40}, {512, 3}, {1024, 1024}, {2048, 9}, {4096, 1}, {4096, 256}} {
		d, e := device.New(n[0], n[1])
		want(t, "New", e, api.OK)
		wantImage(t, d)
		for range 20 {
			b := x.below(n[1])
			switch x.below(5) {
			case 0:
				want(t, "Load", d.Load(b, x.bytes(n[0])), api.OK)
			case 1:
				want(t, "Flush", d.Flush(), api.OK)
			case 2:
				want(t, "Crash", d.Crash([]int{x.below(3), x.below(3), x.below(3)}), api.OK)
			default:
				want(t, "Write", d.Write(b, x.bytes(n[0])), api.OK)
			}
		}
		last := bytes.Repeat([]byte{9}, n[0])
		want(t, "Write", d.Write(n[1]-1, bytes.Repeat([]byte{8}, n[0])), api.OK)
		want(t, "Write", d.Write(n[1]-1, last), api.OK)
		waits, writes := d.Waiting(), d.Writes()
		if image := wantImage(t, d); !bytes.Equal(image[n[1]-1], last) {
			t.Error("Image has not the last write of the last block")
		}
		if !slices.Equal(d.Waiting(), waits) || d.Writes() != writes {
			t.Error("Image has written to the device")
		}
	}
}

// TestImageDead: P17.1, the device's error at reading: of a dead device nothing is told, till a crash; a fuse alone hinders nothing, and burns nothing.
func TestImageDead(t *testing.T) {
	for _, fuse := range []int{0, 1, 2, 5} {
		d, _ := device.New(64, 9)
		want(t, "Fuse", d.Fuse(fuse), api.OK)
		wantImage(t, d)
		for b := range fuse {
			want(t, "Write", d.Write(b, bytes.Repeat([]byte{3}, 64)), api.OK)
			wantImage(t, d)
		}
		want(t, "Write", d.Write(8, make([]byte, 64)), api.ErrDead)
		image, e := audit.Image(d)
		want(t, "Image", e, api.ErrDead)
		if len(image) != 0 {
			t.Errorf("Image beside an error: %v", image)
		}
		want(t, "Crash", d.Crash(nil), api.OK)
		wantImage(t, d)
	}
}

// TestImageNew: R4, what Image answers is new memory, block by block.
func TestImageNew(t *testing.T) {
	d, _ := device.New(64, 5)
	want(t, "Load", d.Load(2, bytes.Repeat([]byte{7}, 64)), api.OK)
	want(t, "Write", d.Write(3, bytes.Repeat([]byte{6}, 64)), api.OK)
	one, _ := audit.Image(d)
	two, _ := audit.Image(d)
	kept := clone(two)
	scribble(one)
	if !same(two, kept) {
		t.Error("two answers of Image share memory")
	}
	if !same(wantImage(t, d), kept) {
		t.Error("Image hands the device's memory out")
	}
	wantApart(t, two)
}

// TestImageOfNoDevice: R1, a device that New has not made has no block.
func TestImageOfNoDevice(t *testing.T) {
	image, e := audit.Image(&device.Device{})
	want(t, "Image", e, api.OK)
	wantLost(t, image)
}

// TestImageOfSound: P17.1, an image that was loaded onto a device is answered again, and is as sound.
func TestImageOfSound(t *testing.T) {
	for _, p := range plans(t) {
		image := rich(t, p).image()
		d, _ := device.New(p.Block, p.Blocks)
		for b, data := range image {
			want(t, "Load", d.Load(b, data), api.OK)
		}
		if again := wantImage(t, d); !same(again, image) || agree(t, again) != "sound" {
			t.Error("an image that was loaded is another one")
		}
	}
}

// TestNoImage: P17.1, images of no block, of some that are no image's, of one block that is.
func TestNoImage(t *testing.T) {
	p := planned(t, 64, 300, 20, 60)
	super, _ := codec.Super(p)
	for _, image := range [][][]byte{
		nil, {}, {nil}, {{}}, {nil, nil}, {{0}}, {make([]byte, 64)}, {super}, {super, nil}, {nil, super}, {super[:63]}, {super[:16]}, {append(slices.Clone(super), 0)},
		make([][]byte, 300), make([][]byte, 5000), slices.Repeat([][]byte{make([]byte, 64)}, 300), slices.Repeat([][]byte{super}, 300), slices.Repeat([][]byte{super}, 299),
	} {
		wantLost(t, image)
		agree(t, image)
	}
}

// TestTooManyBlocks: P17.1, images of one block less and of one more than the plan has, and of half and twice as many.
func TestTooManyBlocks(t *testing.T) {
	for _, p := range plans(t) {
		image := rich(t, p).image()
		more := bytes.Repeat([]byte{0}, p.Block)
		for _, wrong := range [][][]byte{
			image[:p.Blocks-1], image[:p.Blocks/2], image[:p.Data], image[:2], image[:1], image[1:], append(clone(image), more), append(clone(image), nil), append(clone(image), image...), append([][]byte{image[0]}, image...),
		} {
			wantLost(t, wrong)
		}
		wantReplay(t, image, image)
	}
}

// TestBlockLengths: P17.1, a block of another length than the plan's Block, nil among them, wherever it stands.
func TestBlockLengths(t *testing.T) {
	for _, p := range plans(t) {
		image := rich(t, p).image()
		step := max(1, p.Blocks/60)
		for b := 0; b < p.Blocks; b += step {
			data := image[b]
			for _, wrong := range [][]byte{nil, {}, data[:1], data[:p.Block/2], data[:p.Block-1], append(slices.Clone(data), 0), append(slices.Clone(data), data...)} {
				image[b] = wrong
				wantLost(t, image)
			}
			image[b] = data
		}
		last := image[p.Blocks-1]
		image[p.Blocks-1] = last[:p.Block-1]
		wantLost(t, image)
		image[p.Blocks-1] = last
		wantReplay(t, image, image)
	}
}

// TestFirstBlock: P17.1, a first block of which any bit is turned is not read; that of another plan is, but then the blocks are not its.
func TestFirstBlock(t *testing.T) {
	for _, p := range plans(t) {
		image := rich(t, p).image()
		first := image[0]
		for bit := 0; bit < 8*p.Block; bit++ {
			if bit > 200 && bit%37 != 0 {
				continue
			}
			image[0] = bytes.Clone(first)
			image[0][bit/8] ^= 1 << (bit % 8)
			wantLost(t, image)
		}
		for _, q := range []api.Plan{planned(t, p.Block, p.Blocks-1, p.Inodes, p.Log), planned(t, 64, p.Blocks, 2, 4)} {
			if q.Block == p.Block && q.Blocks == p.Blocks {
				continue
			}
			image[0], _ = codec.Super(q)
			wantLost(t, image)
		}
		// Of a plan with another log as many blocks are as long, but they are no sound image.
		image[0], _ = codec.Super(planned(t, p.Block, p.Blocks, p.Inodes, p.Log-1))
		wantUnsound(t, image)
		agree(t, image)
	}
}

// TestAllKinds: P17.1 to P17.3, a sheet of many kinds of files and directories, told by hand.
func TestAllKinds(t *testing.T) {
	for _, p := range plans(t) {
		s := rich(t, p)
		image := s.image()
		c := bytes.Repeat([]byte("0123456789abc"), (9*p.Block+20)/13)
		e := make([]byte, s.inodes[6].Size)
		copy(e[2*p.Block+3:], "two")
		copy(e[10*p.Block:], "ten")
		// a, c with its Single, e with two blocks and its Single; then the directories /, b and d.
		blocks := 1 + len(c)/p.Block + 2 + 3 + 3
		if doubles(p) {
			copy(e[(8+per(p)+1)*p.Block-2:], "edge")
			copy(e[(8+2*per(p)+3)*p.Block:], "far")
			// Double, two that it names, three data blocks.
			blocks += 6
		}
		wantSound(t, image, []api.Node{
			node("/", 2, 1, 1, 64, nil), node("/a", 1, 2, 2, 10, []byte("some bytes")), node("/b", 2, 3, 1, 48, nil), node("/b/again", 1, 2, 2, 10, []byte("some bytes")), node("/b/c", 1, 4, 1, len(c), c),
			node("/b/d", 2, 5, 1, 16, nil), node("/b/d/e", 1, 6, 1, len(e), e), node("/empty", 2, 8, 1, 0, nil), node("/z", 1, 7, 1, 0, nil),
		}, complex(float64(blocks), 8))
		if len(c)%p.Block == 0 {
			t.Error("the last block of a file should not be full")
		}
		wantFaults(t, image)
		wantReplay(t, image, image)
	}
}

// wantPaths holds the paths of a sound image against a list.
func wantPaths(t *testing.T, image [][]byte, paths []string) {
	t.Helper()
	list, e := audit.Dump(image)
	want(t, "Dump", e, api.OK)
	var got []string
	for _, n := range list {
		got = append(got, n.Path)
	}
	if !slices.Equal(got, paths) {
		t.Errorf("paths %q, should be %q", got, paths)
	}
}

// TestDumpOrder: P17.2, paths come in the order of chapter 16, in whatever order names stand on the device: what is below a path comes right behind it, though names have bytes below /.
func TestDumpOrder(t *testing.T) {
	p := planned(t, 64, 300, 40, 40)
	names := []string{"b", "a", "a-", "a.", "a0", "ab", "_", "-", "...", "0", "z", ".a", "abcdefghijklm"}
	sorted := []string{"-", "...", ".a", "0", "_", "a", "a-", "a.", "a0", "ab", "abcdefghijklm", "b", "z"}
	x := dice(11)
	for range 50 {
		for i := len(names) - 1; i > 0; i-- {
			j := x.below(i + 1)
			names[i], names[j] = names[j], names[i]
		}
		s := newSheet(t, p)
		for k, name := range names {
			s.born(1, name, 2+k, []int{api.KindFile, api.KindDir}[x.below(2)])
		}
		a := 2 + slices.Index(names, "a")
		s.inodes[a].Kind = api.KindDir
		s.born(a, "c", 30, api.KindDir)
		s.born(30, "d", 31, api.KindFile)
		s.born(a, "-", 32, api.KindFile)
		var paths []string
		for _, name := range sorted {
			paths = append(paths, "/"+name)
			if name == "a" {
				paths = append(paths, "/a/-", "/a/c", "/a/c/d")
			}
		}
		image := s.image()
		paths = append([]string{"/"}, paths...)
		wantPaths(t, image, paths)
		agree(t, image)
		ordered, e := walk.Order(paths)
		want(t, "Order", e, api.OK)
		wantPaths(t, image, ordered)
	}
}

// TestLongPaths: P17.2, paths are told however long they are: of sixteen names and more, of 200 bytes and more, of as many names as there are inodes.
func TestLongPaths(t *testing.T) {
	for _, n := range [][5]int{{64, 300, 100, 10, 15}, {64, 300, 100, 10, 16}, {64, 300, 100, 10, 17}, {128, 300, 100, 10, 80}, {64, 4096, 1024, 512, 1021}, {1024, 1024, 1024, 20, 900}} {
		p := planned(t, n[0], n[1], n[2], n[3])
		for _, name := range []string{"a", "abcdefghijklm"} {
			s := newSheet(t, p)
			paths := []string{"/"}
			for d := 1; d <= n[4]; d++ {
				s.born(d, name, d+1, api.KindDir)
				paths = append(paths, strings.Repeat("/"+name, d))
			}
			deep := n[4] + 1
			s.born(deep, "z", deep+1, api.KindFile)
			s.link(deep, "b", deep+1)
			s.write(deep+1, 0, []byte("deep"))
			paths = append(paths, paths[n[4]]+"/b", paths[n[4]]+"/z")
			image := s.image()
			wantPaths(t, image, paths)
			list, _ := audit.Dump(image)
			for _, l := range list[deep:] {
				if string(l.Data) != "deep" || l.Links != 2 || l.Inode != deep+1 {
					t.Errorf("the file at the end is %v", l)
				}
			}
			if a, e := audit.Used(image); e != api.OK || a != complex(float64(deep+1), float64(deep+1)) {
				t.Errorf("Used: %v, %d", a, e)
			}
		}
	}
}

// TestManyNames: P17.1 and P17.2, a file of several names is told under each, in one directory and in several; Links counts all of them, above 255 too.
func TestManyNames(t *testing.T) {
	for _, n := range []int{2, 16, 255, 256, 257, 300, 1000} {
		p := planned(t, 64, 1000, 10, 20)
		s := newSheet(t, p)
		s.inodes[2] = api.Inode{Kind: api.KindFile}
		s.write(2, 5, []byte("x"))
		s.born(1, "d", 3, api.KindDir)
		s.born(3, "d", 4, api.KindDir)
		for k := range n {
			s.link([]int{1, 3, 4}[k%3], fmt.Sprintf("n%04d", k), 2)
		}
		image := s.image()
		wantFaults(t, image)
		list, _ := audit.Dump(image)
		if len(list) != n+3 {
			t.Errorf("%d nodes, should be %d", len(list), n+3)
		}
		count := 0
		for _, l := range list {
			if l.Inode == 2 && l.Links == n && l.Size == 6 && string(l.Data) == "\x00\x00\x00\x00\x00x" {
				count++
			}
		}
		if count != n {
			t.Errorf("%d nodes are the file, should be %d", count, n)
		}
		agree(t, image)
		for _, links := range []int{n - 1, n + 1, n % 256, n + 256, n + 65536 - 256, 0, 65535} {
			if links == n || links > 65535 {
				continue
			}
			s.inodes[2].Links = links
			wantFaults(t, s.image(), fileLinks)
			wantUnsound(t, s.image())
		}
	}
}

// TestGreatDirs: P17.1 and P17.2, directories whose names reach into Single and Double, wherever a name stands.
func TestGreatDirs(t *testing.T) {
	for _, n := range [][5]int{{64, 300, 10, 10, 31}, {64, 300, 10, 10, 32}, {64, 300, 10, 10, 33}, {64, 300, 10, 10, 161}, {64, 1000, 10, 10, 700}, {128, 900, 10, 10, 700}, {512, 300, 5, 10, 900}, {4096, 200, 5, 10, 2100}} {
		p := planned(t, n[0], n[1], n[2], n[3])
		s := newSheet(t, p)
		s.inodes[2] = api.Inode{Kind: api.KindFile}
		paths := []string{"/"}
		for k := range n[4] {
			name := fmt.Sprintf("%d-%d", k*7919%n[4], k)
			s.link(1, name, 2)
			paths = append(paths, "/"+name)
		}
		slices.Sort(paths)
		image := s.image()
		wantPaths(t, image, paths)
		agree(t, image)
		// A name twice, wherever both stand.
		s.inodes[2].Links++
		for _, at := range []int{0, 1, n[4] / 2, n[4] - 1} {
			data := bytes.Clone(s.blocks[s.find(1, at*16/p.Block)][at*16%p.Block:][:16])
			end := s.inodes[1].Size
			s.write(1, end, data)
			wantFaults(t, s.image(), nameOnce)
			s.inodes[1].Size = end
		}
	}
}

// TestHoles: P17.2, bytes of holes are 0, also where a file ends with them, and where a block is not there at all; what stands behind Size in the last block is not told.
func TestHoles(t *testing.T) {
	for _, p := range plans(t) {
		sizes := []int{0, 1, p.Block - 1, p.Block, p.Block + 1, 8*p.Block - 1, 8 * p.Block, 8*p.Block + 1, (8+per(p))*p.Block - 1, (8 + per(p)) * p.Block, (8+per(p))*p.Block + 1, most(p) - 1, most(p)}
		for _, size := range sizes {
			if size > most(p) {
				continue
			}
			whole := (size + p.Block - 1) / p.Block
			for _, index := range []int{-1, 0, 1, 7, 8, 9, 8 + per(p) - 1, 8 + per(p), 8 + 2*per(p), whole - 2, whole - 1} {
				if index >= whole || index < -1 {
					continue
				}
				s := newSheet(t, p)
				s.born(1, "f", 2, api.KindFile)
				data := make([]byte, size)
				if index >= 0 {
					full := bytes.Repeat([]byte{rubble}, p.Block)
					s.write(2, index*p.Block, full)
					copy(data[index*p.Block:], full)
				}
				s.inodes[2].Size = size
				image := s.image()
				used := complex(float64(s.next-p.Data), 2)
				wantSound(t, image, []api.Node{node("/", 2, 1, 1, 16, nil), node("/f", 1, 2, 1, size, data)}, used)
				wantFaults(t, image)
			}
		}
	}
}

// TestUsed: P17.3, data blocks of files and directories and blocks with pointers count, blocks of the log and holes do not; inode 0 is none in use.
func TestUsed(t *testing.T) {
	for _, p := range plans(t) {
		s := newSheet(t, p)
		blocks := 0
		for i := 2; i < min(p.Inodes, 20); i++ {
			s.born(1, fmt.Sprint(i), i, api.KindFile)
			if i%2 == 0 {
				s.write(i, i%8*p.Block, []byte{1})
				blocks++
			}
			if i == 6 {
				s.write(i, 12*p.Block, []byte{1})
				blocks += 2
			}
			if i == 9 && doubles(p) {
				s.write(i, (8+per(p))*p.Block, []byte{1})
				blocks += 3
			}
			names := (16*(i-1) + p.Block - 1) / p.Block
			if names > 8 {
				names++
			}
			a, e := audit.Used(s.image())
			if want := complex(float64(blocks+names), float64(i)); a != want || e != api.OK {
				t.Errorf("Used: %v, %d, should be %v", a, e, want)
			}
		}
	}
}

// TestFullDevice: P17.1 and P17.3, all inodes and all data blocks are in use, up to the last ones.
func TestFullDevice(t *testing.T) {
	for _, n := range [][4]int{{64, 100, 10, 8}, {64, 1100, 1024, 4}, {128, 4096, 1024, 512}, {4096, 256, 1024, 100}, {64, 11, 2, 4}, {64, 512, 16, 10}, {64, 513, 16, 10}} {
		p := planned(t, n[0], n[1], n[2], n[3])
		s := newSheet(t, p)
		for i := 2; i < p.Inodes && s.next < p.Blocks-2; i++ {
			s.born(1, fmt.Sprint("n", i), i, api.KindFile)
		}
		for i := 2; i < p.Inodes && s.inodes[i].Kind != api.KindFree; i++ {
			// Only as many blocks as leave no room for a Single that has none to name.
			for index := 0; index < min(8+per(p), most(p)/p.Block) && s.next < p.Blocks && (index != 8 || s.next < p.Blocks-1); index++ {
				s.write(i, index*p.Block, []byte{5})
			}
		}
		if s.next < p.Blocks && p.Inodes > 2 {
			t.Errorf("%d blocks of %v are not in use", p.Blocks-s.next, p)
		}
		image := s.image()
		if got := agree(t, image); got != "sound" {
			t.Errorf("a full device of %v is %s", p, got)
		}
	}
}
