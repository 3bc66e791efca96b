package audit_test

import (
	"bytes"
	"fmt"
	"slices"
	"testing"

	"skerry/api"
	"skerry/audit"
)

// wantAllFaults holds that each of these faults is found, on devices of all sizes.
func wantAllFaults(t *testing.T, list func(p api.Plan) []fault) {
	t.Helper()
	for _, p := range plans(t) {
		for _, f := range list(p) {
			wantFault(t, p, f)
		}
	}
}

// dirs answers the directories of a rich sheet.
func dirs() []int {
	return []int{1, 3, 5, 8}
}

// lose lets the last name of a directory be gone, and its block, if that has no other name.
func (s *sheet) lose(d int) {
	x := &s.inodes[d]
	x.Size -= 16
	if x.Size%s.p.Block == 0 {
		s.point(d, x.Size/s.p.Block, 0)
	}
}

// newDir lets an inode be a directory that nothing names yet.
func (s *sheet) newDir(i int) {
	s.inodes[i] = api.Inode{Kind: api.KindDir, Links: 1}
}

// TestRoot: P17.1, inode 1 is a directory: a file there is none, nor is what is free, with names or without.
func TestRoot(t *testing.T) {
	for _, p := range plans(t) {
		for _, f := range []struct {
			name  string
			root  api.Inode
			broke []string
		}{
			{"free", api.Inode{}, []string{rootIsDir, rootLinks}},
			{"a file", api.Inode{Kind: api.KindFile, Links: 1}, []string{rootIsDir, fileLinks, fileNamed}},
			{"a file without Links", api.Inode{Kind: api.KindFile}, []string{rootIsDir, rootLinks, fileNamed}},
		} {
			s := newSheet(t, p)
			s.inodes[1] = f.root
			wantFaults(t, s.image(), f.broke...)
			wantUnsound(t, s.image())
			// There is one directory, as if it were the root: it names itself.
			s.newDir(2)
			s.enter(2, "me", 2)
			wantFaults(t, s.image(), append(f.broke, dirReached)...)
			wantUnsound(t, s.image())
			// What would be a tree, but for its root.
			s = rich(t, p)
			s.inodes[1].Kind = api.KindFile
			wantUnsound(t, s.image())
			agree(t, s.image())
		}
	}
}

// TestRootFaults: P17.1, inode 1 is named by none, and has Links 1.
func TestRootFaults(t *testing.T) {
	wantAllFaults(t, func(p api.Plan) []fault {
		var list []fault
		for _, d := range dirs() {
			list = append(list,
				fault{fmt.Sprint("the root is named in ", d), func(s *sheet) { s.enter(d, "root", 1) }, nil, []string{rootUnnamed}},
				fault{fmt.Sprint("the root is named in ", d, ", and counts it"), func(s *sheet) { s.link(d, "root", 1) }, nil, []string{rootUnnamed, rootLinks}})
		}
		for _, links := range []int{0, 2, 3, 256, 257, 65535} {
			list = append(list, fault{fmt.Sprint("the root has Links ", links), func(s *sheet) { s.inodes[1].Links = links }, nil, []string{rootLinks}})
		}
		return list
	})
}

// TestOddSizes: P17.1, Size of a directory is a multiple of 16, wherever the bytes that are too many stand, and whatever they are.
func TestOddSizes(t *testing.T) {
	wantAllFaults(t, func(p api.Plan) []fault {
		var list []fault
		for n := 1; n < 16; n++ {
			for _, d := range dirs() {
				list = append(list, fault{fmt.Sprint(n, " bytes behind the names of ", d), func(s *sheet) { s.write(d, s.inodes[d].Size, dirent("more", 2)[:n]) }, nil, []string{sixteen}})
			}
		}
		return append(list,
			fault{"a byte 0 in a directory without names", func(s *sheet) { s.write(8, 0, []byte{0}) }, nil, []string{sixteen}},
			fault{"half a name", func(s *sheet) { s.lose(5); s.write(5, 0, dirent("e", 6)); s.inodes[5].Size = 8 }, nil, []string{sixteen, fileLinks, fileNamed}})
	})
}

// crowd lets a directory have names enough for so many blocks, all of them inode 7's.
func (s *sheet) crowd(d, blocks int) {
	s.t.Helper()
	for n := 0; s.inodes[d].Size < blocks*s.p.Block; n++ {
		s.link(d, fmt.Sprintf("crowd%05d", n), 7)
	}
}

// TestDirHoles: P17.1, a directory has no hole ahead of Size: no first block, none in the middle, no last one, none of Single; bytes 0 there are no names, so that is untrue with it.
func TestDirHoles(t *testing.T) {
	for _, p := range plans(t) {
		for blocks := 1; blocks <= 4; blocks++ {
			for hole := range blocks {
				s := rich(t, p)
				s.crowd(8, blocks)
				wantFaults(t, s.image())
				s.point(8, hole, 0)
				s.inodes[7].Links -= p.Block / 16
				wantFaults(t, s.image(), noHole, noZero)
				wantUnsound(t, s.image())
			}
		}
		// All of it is one hole.
		wantFault(t, p, fault{"a directory of one hole", func(s *sheet) { s.inodes[8].Size = 16 }, nil, []string{noHole, noZero}})
		wantFault(t, p, fault{"a directory of the greatest size", func(s *sheet) { s.inodes[8].Size = most(p) }, nil, []string{noHole, noZero}})
		wantFault(t, p, fault{"a hole of less than a name", func(s *sheet) { s.inodes[8].Size = 8 }, nil, []string{noHole, sixteen}})
	}
	p := planned(t, 64, 300, 20, 60)
	s := rich(t, p)
	s.crowd(8, 45)
	wantFaults(t, s.image())
	agree(t, s.image())
	for _, hole := range []int{0, 7, 8, 9, 39, 40, 41, 44} {
		s := rich(t, p)
		s.crowd(8, 45)
		s.point(8, hole, 0)
		s.inodes[7].Links -= 4
		wantFaults(t, s.image(), noHole, noZero)
		wantUnsound(t, s.image())
	}
}

// noNames answers 16 bytes of many kinds that codec.Undirent refuses.
func noNames() map[string][]byte {
	turned := func(at int, c byte) []byte {
		raw := dirent("ab", 2)
		raw[at] = c
		return raw
	}
	return map[string][]byte{
		"no name": dirent("", 2), "one dot": dirent(".", 2), "two dots": dirent("..", 2), "a great letter": dirent("aBc", 2), "a slash": dirent("a/b", 2), "a blank": dirent("a b", 2), "a byte above 127": dirent("\x80", 2), "a byte 1": dirent("\x01", 2),
		"a 0 ahead of the name": turned(2, 0), "a byte behind the name": turned(6, 'a'), "the last byte of a name alone": turned(14, 'a'), "a last byte": turned(15, 1), "a last letter": turned(15, 'a'),
		"a name of 14 letters": func() []byte { raw := dirent("abcdefghijklm", 2); raw[15] = 'n'; return raw }(),
		"a name of inode 0":    dirent("ab", 0), "a last byte of inode 0": func() []byte { raw := make([]byte, 16); raw[15] = 1; return raw }(),
		"rubble": bytes.Repeat([]byte{rubble}, 16), "ones": bytes.Repeat([]byte{0xff}, 16),
	}
}

// TestNoNames: P17.1, names of directories are read, and none has Inode 0: behind the others, and ahead of them, in their middle, in a block of their own.
func TestNoNames(t *testing.T) {
	wantAllFaults(t, func(p api.Plan) []fault {
		var list []fault
		for _, d := range dirs() {
			for name, raw := range noNames() {
				list = append(list, fault{fmt.Sprint(name, " in ", d), func(s *sheet) { s.write(d, s.inodes[d].Size, raw) }, nil, []string{nameIsRead}})
			}
			list = append(list, fault{fmt.Sprint("16 bytes 0 in ", d), func(s *sheet) { s.write(d, s.inodes[d].Size, make([]byte, 16)) }, nil, []string{noZero}})
		}
		return list
	})
	for _, p := range plans(t) {
		for n := range 2*p.Block/16 + 1 {
			if n > 9 && n%37 != 0 {
				continue
			}
			for raw, sentence := range map[string]string{string(dirent("A", 7)): nameIsRead, string(make([]byte, 16)): noZero} {
				s := rich(t, p)
				s.crowd(8, 2)
				s.enter(8, "last", 7)
				s.write(8, 16*n, []byte(raw))
				wantFaults(t, s.image(), sentence)
				wantUnsound(t, s.image())
			}
		}
	}
}

// TestNameTwice: P17.1, no name stands twice in a directory, of one inode or of two, of files and directories; in two directories it may, and so may names of which one begins with the other.
func TestNameTwice(t *testing.T) {
	wantAllFaults(t, func(p api.Plan) []fault {
		return []fault{
			{"one file's, side by side", func(s *sheet) { s.link(8, "x", 7); s.link(8, "x", 7) }, nil, []string{nameOnce}},
			{"one file's, apart", func(s *sheet) { s.link(1, "z", 7) }, nil, []string{nameOnce}},
			{"two files'", func(s *sheet) { s.link(1, "z", 2) }, nil, []string{nameOnce}},
			{"a file's and a directory's", func(s *sheet) { s.link(1, "b", 7) }, nil, []string{nameOnce}},
			{"two directories'", func(s *sheet) { s.born(1, "b", 9, api.KindDir) }, nil, []string{nameOnce}},
			{"thirteen letters", func(s *sheet) { s.link(3, "abcdefghijklm", 7); s.link(3, "abcdefghijklm", 2) }, nil, []string{nameOnce}},
			{"thrice", func(s *sheet) { s.link(3, "c", 7); s.link(3, "c", 2) }, nil, []string{nameOnce}},
			{"in a directory below", func(s *sheet) { s.link(5, "e", 7) }, nil, []string{nameOnce}},
			{"with many between", func(s *sheet) { s.link(8, "crowd", 2); s.crowd(8, 3); s.link(8, "crowd", 7) }, nil, []string{nameOnce}},
		}
	})
	for _, p := range plans(t) {
		s := rich(t, p)
		for _, d := range dirs() {
			for _, name := range []string{"x", "xx", "xxx", "x-", "x.", "x0", "abcdefghijklm", "abcdefghijkl", "abcdefghijkln"} {
				s.link(d, name, 7)
			}
		}
		wantFaults(t, s.image())
		agree(t, s.image())
	}
}

// TestNamesOfNone: P17.1, each name names an inode that is in use: none that is free, none behind the last one, also where the table has room for it.
func TestNamesOfNone(t *testing.T) {
	wantAllFaults(t, func(p api.Plan) []fault {
		var list []fault
		for _, d := range dirs() {
			for _, i := range []int{9, p.Inodes - 1, p.Inodes, p.Inodes + 1, p.Inodes + 7, 256 + 2, 1024, 32767, 32768, 65535} {
				list = append(list, fault{fmt.Sprint("a name of inode ", i, " in ", d), func(s *sheet) { s.enter(d, "none", i) }, nil, []string{namesUsed}})
			}
		}
		return list
	})
	// The last inode of all may be named, if it is in use.
	for _, p := range plans(t) {
		for _, kind := range []int{api.KindFile, api.KindDir} {
			s := rich(t, p)
			s.born(5, "last", p.Inodes-1, kind)
			wantFaults(t, s.image())
			agree(t, s.image())
		}
	}
}

// TestDirLinks: P17.1, each directory but the root has Links 1.
func TestDirLinks(t *testing.T) {
	wantAllFaults(t, func(p api.Plan) []fault {
		var list []fault
		for _, d := range dirs()[1:] {
			for _, links := range []int{0, 2, 3, 256, 257, 65535} {
				list = append(list, fault{fmt.Sprint("directory ", d, " has Links ", links), func(s *sheet) { s.inodes[d].Links = links }, nil, []string{dirLinks}})
			}
		}
		return list
	})
}

// TestDirsNamed: P17.1, each directory but the root is named just once, whatever its Links: not twice, in one directory or in two, by what is below it, by itself; and not never.
func TestDirsNamed(t *testing.T) {
	wantAllFaults(t, func(p api.Plan) []fault {
		list := []fault{
			{"not named", func(s *sheet) { s.lose(1) }, nil, []string{dirOnce, dirReached}},
			{"not named, without Links", func(s *sheet) { s.lose(1); s.inodes[8].Links = 0 }, nil, []string{dirOnce, dirLinks, dirReached}},
			{"a new one, not named", func(s *sheet) { s.newDir(9) }, nil, []string{dirOnce, dirReached}},
			{"not named, with a file in it", func(s *sheet) { s.newDir(9); s.born(9, "f", 10, api.KindFile) }, nil, []string{dirOnce, dirReached}},
			{"not named, with a directory in it", func(s *sheet) { s.newDir(9); s.born(9, "d", 10, api.KindDir) }, nil, []string{dirOnce, dirReached}},
			{"the last inode, not named", func(s *sheet) { s.newDir(p.Inodes - 1) }, nil, []string{dirOnce, dirReached}},
		}
		for _, named := range dirs()[1:] {
			for _, d := range dirs() {
				list = append(list,
					fault{fmt.Sprint(named, " is named in ", d, " too"), func(s *sheet) { s.enter(d, "too", named) }, nil, []string{dirOnce}},
					fault{fmt.Sprint(named, " is named in ", d, " too, and counts it"), func(s *sheet) { s.link(d, "too", named) }, nil, []string{dirOnce, dirLinks}},
					fault{fmt.Sprint(named, " is named in ", d, " twice more"), func(s *sheet) { s.enter(d, "too", named); s.enter(d, "more", named) }, nil, []string{dirOnce}})
			}
		}
		return list
	})
}

// TestRings: P17.1, each directory is reached from the root: those in a ring are named just once, but by one another.
func TestRings(t *testing.T) {
	wantAllFaults(t, func(p api.Plan) []fault {
		var list []fault
		for n := 1; n <= 6; n++ {
			ring := func(s *sheet) {
				for k := range n {
					s.newDir(9 + k)
				}
				for k := range n {
					s.enter(9+k, "next", 9+(k+1)%n)
				}
			}
			list = append(list,
				fault{fmt.Sprint("a ring of ", n), ring, nil, []string{dirReached}},
				fault{fmt.Sprint("a ring of ", n, " with a file"), func(s *sheet) { ring(s); s.born(9, "f", 16, api.KindFile) }, nil, []string{dirReached}},
				fault{fmt.Sprint("a ring of ", n, " with a file of the tree's"), func(s *sheet) { ring(s); s.link(9+n-1, "f", 2) }, nil, []string{dirReached}},
				fault{fmt.Sprint("a ring of ", n, " with directories below"), func(s *sheet) { ring(s); s.born(9, "d", 16, api.KindDir); s.born(16, "d", 17, api.KindDir) }, nil, []string{dirReached}},
				fault{fmt.Sprint("a ring of ", n, " that the root names"), func(s *sheet) { ring(s); s.enter(1, "ring", 9) }, nil, []string{dirOnce}},
				fault{fmt.Sprint("a ring of ", n, " that names the root"), func(s *sheet) { ring(s); s.enter(9, "root", 1) }, nil, []string{dirReached, rootUnnamed}})
		}
		return append(list,
			fault{"two rings", func(s *sheet) {
				for _, i := range []int{9, 10} {
					s.newDir(i)
					s.enter(i, "me", i)
				}
			}, nil, []string{dirReached}},
			fault{"a directory moved into what is below it", func(s *sheet) {
				s.lose(1)
				s.enter(8, "me", 8)
			}, nil, []string{dirReached}})
	})
	// A ring of all inodes but the root, and a chain of as many.
	p := planned(t, 64, 2300, 1024, 20)
	for _, first := range []int{1, 1023} {
		s := newSheet(t, p)
		for i := 2; i < 1024; i++ {
			s.newDir(i)
		}
		s.enter(first, "d", 2)
		for i := 3; i < 1024; i++ {
			s.enter(i-1, "d", i)
		}
		if first == 1 {
			wantFaults(t, s.image())
		} else {
			wantFaults(t, s.image(), dirReached)
			wantUnsound(t, s.image())
		}
	}
}

// TestFileLinks: P17.1, each file is named as often as Links says, at least once.
func TestFileLinks(t *testing.T) {
	wantAllFaults(t, func(p api.Plan) []fault {
		var list []fault
		for i, count := range map[int]int{2: 2, 4: 1, 6: 1, 7: 1} {
			for _, links := range []int{0, 1, 2, 3, 257, 258, 65535} {
				if links != count {
					list = append(list, fault{fmt.Sprint("file ", i, " has Links ", links), func(s *sheet) { s.inodes[i].Links = links }, nil, []string{fileLinks}})
				}
			}
			for _, d := range dirs() {
				list = append(list, fault{fmt.Sprint("file ", i, " is named in ", d, " too"), func(s *sheet) { s.enter(d, "too", i) }, nil, []string{fileLinks}})
			}
		}
		return append(list,
			fault{"a file that is not named", func(s *sheet) { s.inodes[9] = api.Inode{Kind: api.KindFile, Links: 1} }, nil, []string{fileLinks, fileNamed}},
			fault{"a file that is not named, without Links", func(s *sheet) { s.inodes[9] = api.Inode{Kind: api.KindFile} }, nil, []string{fileNamed}},
			fault{"the last inode, not named", func(s *sheet) { s.inodes[p.Inodes-1] = api.Inode{Kind: api.KindFile} }, nil, []string{fileNamed}},
			fault{"a file that is not named, with bytes", func(s *sheet) {
				s.inodes[9] = api.Inode{Kind: api.KindFile}
				s.write(9, 0, []byte("lost"))
			}, nil, []string{fileNamed}},
			fault{"a file that has lost its name", func(s *sheet) { s.lose(5) }, nil, []string{fileLinks, fileNamed}},
			fault{"a file that has lost its name, and counts it", func(s *sheet) { s.lose(5); s.inodes[6].Links = 0 }, nil, []string{fileNamed}},
			fault{"a file that has lost one of two", func(s *sheet) { s.lose(3) }, nil, []string{fileLinks}})
	})
	// One that has lost one of two, and counts it, is sound.
	for _, p := range plans(t) {
		s := rich(t, p)
		s.lose(3)
		s.inodes[2].Links = 1
		wantFaults(t, s.image())
		agree(t, s.image())
	}
}

// TestMostNames: P17.1 to P17.3, as many names of one file as a device has room for, in directories of the greatest size: Links has more than one byte, and more than 15 bits.
func TestMostNames(t *testing.T) {
	p := planned(t, 4096, 256, 4, 4)
	s := newSheet(t, p)
	s.born(1, "d", 2, api.KindDir)
	s.inodes[3].Kind = api.KindFile
	fill := func(d int, letter byte) {
		data := s.content(d)
		for n := 0; len(data) < 116*p.Block; n++ {
			data = append(data, dirent(fmt.Sprintf("%c%06d", letter, n), 3)...)
			s.inodes[3].Links++
		}
		s.write(d, 0, data)
	}
	fill(1, 'r')
	fill(2, 'd')
	count := 2*116*p.Block/16 - 1
	if count < 50000 || count != s.inodes[3].Links {
		t.Fatalf("%d names, Links %d", count, s.inodes[3].Links)
	}
	image := s.image()
	wantFaults(t, image)
	list, e := audit.Dump(image)
	want(t, "Dump", e, api.OK)
	sorted := slices.IsSortedFunc(list, func(a, b api.Node) int { return bytes.Compare([]byte(a.Path), []byte(b.Path)) })
	if len(list) != count+2 || !sorted || list[len(list)-1].Links != count {
		t.Errorf("%d nodes, sorted %t, should be %d", len(list), sorted, count+2)
	}
	s.inodes[3].Links = count - 32768
	wantUnsound(t, s.image())
}

// content answers the bytes of an inode of a sheet.
func (s *sheet) content(i int) []byte {
	var data []byte
	for n := 0; len(data) < s.inodes[i].Size; n++ {
		data = append(data, s.blocks[s.find(i, n)]...)
	}
	return data[:s.inodes[i].Size]
}
