package tree_test

import (
	"bytes"
	"fmt"
	"slices"
	"strings"
	"testing"

	"skerry/api"
	"skerry/need"
	"skerry/plan"
	"skerry/walk"
)

// rich answers a world with something of all kinds.
func rich(t *testing.T) *world {
	return begun(t, 5000, "mkdir /b", "create /b/z", "create /a", "mkdir /b/c", "open /a", "write 0 3 text", "link /a /b/c/d", "link /a /b-", "mkdir /b/c/e", "create /b/c/e/f", "open /b/z", "truncate 1 5000", "mkdir /c", "create /b.", "create /b0")
}

// TestDump: P18.9, a Node for each path, in order, with all that is told of it.
func TestDump(t *testing.T) {
	w := rich(t)
	wanted := []api.Node{
		{Path: "/", Kind: api.KindDir, Inode: 1, Links: 1, Size: 96},
		{Path: "/a", Kind: api.KindFile, Inode: 4, Links: 3, Size: 7, Data: []byte("\x00\x00\x00text")},
		{Path: "/b", Kind: api.KindDir, Inode: 2, Links: 1, Size: 32},
		{Path: "/b/c", Kind: api.KindDir, Inode: 5, Links: 1, Size: 32},
		{Path: "/b/c/d", Kind: api.KindFile, Inode: 4, Links: 3, Size: 7, Data: []byte("\x00\x00\x00text")},
		{Path: "/b/c/e", Kind: api.KindDir, Inode: 6, Links: 1, Size: 16},
		{Path: "/b/c/e/f", Kind: api.KindFile, Inode: 7, Links: 1},
		{Path: "/b/z", Kind: api.KindFile, Inode: 3, Links: 1, Size: 5000, Data: make([]byte, 5000)},
		{Path: "/b-", Kind: api.KindFile, Inode: 4, Links: 3, Size: 7, Data: []byte("\x00\x00\x00text")},
		{Path: "/b.", Kind: api.KindFile, Inode: 9, Links: 1},
		{Path: "/b0", Kind: api.KindFile, Inode: 10, Links: 1},
		{Path: "/c", Kind: api.KindDir, Inode: 8, Links: 1},
	}
	if got := w.x.Dump(); !sameNodes(got, wanted) {
		t.Errorf("Dump:%s\nshould be%s", show(got), show(wanted))
	}
	for _, n := range w.x.Dump() {
		if n.Kind == api.KindDir && len(n.Data) != 0 {
			t.Errorf("%s has bytes: %q", n.Path, n.Data)
		}
	}
}

// TestDumpOrder: P18.9, the order is that of chapter 16, whatever bytes names have and in whatever order they came.
func TestDumpOrder(t *testing.T) {
	x := dice(11)
	names := []string{"a", "a-", "a.", "a0", "a_", "aa", "-", ".x", "_", "9", "b", "..."}
	for range 20 {
		w := begun(t, 1000)
		dirs := []string{""}
		for range 40 {
			path := pick(&x, dirs) + "/" + pick(&x, names)
			if !isPath(path) {
				continue
			}
			if a := w.both(call{name: pick(&x, []string{"mkdir", "create"}), path: path}); a.e == api.OK && w.m.things[w.m.paths[path]].kind == api.KindDir {
				dirs = append(dirs, path)
			}
		}
		var paths []string
		for _, n := range w.x.Dump() {
			paths = append(paths, n.Path)
		}
		mixed := slices.Clone(paths)
		slices.Reverse(mixed)
		order, e := walk.Order(mixed)
		if e != api.OK || !slices.Equal(paths, order) {
			t.Errorf("Dump has %q, should have %q", paths, order)
		}
		if len(paths) != len(w.m.paths) {
			t.Errorf("Dump has %d paths, should have %d", len(paths), len(w.m.paths))
		}
	}
}

// plans answers plans of all sizes of blocks.
func plans(t *testing.T) []api.Plan {
	t.Helper()
	var list []api.Plan
	for _, block := range []int{64, 128, 256, 512, 1024, 2048, 4096} {
		list = append(list, planned(t, block, min(api.MaxBlocks, api.MaxBytes/block), 1024, 40), planned(t, block, 60, 10, 8))
	}
	return list
}

// TestNeed: P18.9, the sizes of all files, each once, and the numbers of names of all directories, for plans of every kind.
func TestNeed(t *testing.T) {
	w := rich(t)
	// Of Block 64: of 7, 0, 5000, 0 and 0 bytes, and of 6, 2, 2, 1 and 0 names.
	if a, e := w.x.Need(planned(t, 64, 100, 10, 8)); a != 1+(79+1+1+2)+(2+1+1+1)+10i || e != api.OK {
		t.Errorf("Need: %v %d", a, e)
	}
	for _, p := range plans(t) {
		wanted, e := need.Tree(p, []int{7, 0, 5000, 0, 0}, []int{6, 2, 2, 1, 0})
		if a, f := w.x.Need(p); a != wanted || f != e || e != api.OK {
			t.Errorf("Need(%v): %v %d, should be %v", p, a, f, wanted)
		}
	}
	// The root alone is one inode.
	for _, p := range plans(t) {
		if a, e := made(t, 1).Need(p); a != 1i || e != api.OK {
			t.Errorf("Need(%v): %v %d", p, a, e)
		}
	}
}

// TestNeedFollows: P18.9, what is needed follows each call: names of one file add nothing but to directories, and what is gone needs nothing.
func TestNeedFollows(t *testing.T) {
	w := begun(t, 5000)
	p := planned(t, 64, 1000, 100, 40)
	for _, r := range []struct {
		line   string
		wanted complex128
	}{
		{"create /a", 1 + 2i}, {"open /a", 1 + 2i}, {"write 0 0 x", 2 + 2i}, {"truncate 0 64", 2 + 2i}, {"truncate 0 65", 3 + 2i}, {"truncate 0 513", 1 + 10 + 2i}, {"link /a /b", 11 + 2i}, {"link /a /c", 11 + 2i}, {"link /a /d", 11 + 2i}, {"link /a /e", 12 + 2i},
		{"mkdir /f", 12 + 3i}, {"link /a /f/a", 13 + 3i}, {"unlink /f/a", 12 + 3i}, {"rename /f /a", 12 + 3i}, {"unlink /e", 12 + 3i}, {"unlink /d", 11 + 3i}, {"rmdir /f", 11 + 2i}, {"create /d", 11 + 3i}, {"rename /d /c", 11 + 3i},
		{"truncate 0 0", 1 + 3i}, {"close 0", 1 + 3i}, {"unlink /b", 1 + 3i}, {"unlink /a", 1 + 2i}, {"unlink /c", 1i},
	} {
		w.both(parse(r.line))
		if a, e := w.x.Need(p); a != r.wanted || e != api.OK {
			t.Errorf("behind %s: %v %d, should be %v", r.line, a, e, r.wanted)
		}
	}
}

// TestNeedErrors: P18.9, plans that are not sound, and files and directories that are too great for one.
func TestNeedErrors(t *testing.T) {
	w := begun(t, api.MaxFile, "create /a", "open /a", "truncate 0 68096", "mkdir /d")
	small := planned(t, 64, 4096, 1024, 40)
	if n, _ := plan.MaxSize(small); n != 68096 {
		t.Fatal("MaxSize: ", n)
	}
	want := func(p api.Plan, wanted complex128, e api.Errno) {
		t.Helper()
		if a, f := w.x.Need(p); a != wanted || f != e {
			t.Errorf("Need(%v): %v %d, should be %v %d", p, a, f, wanted, e)
		}
	}
	want(small, 1064+34+1+3i, api.OK)
	w.ok("truncate 0 68097")
	want(small, 0, api.ErrRange)
	want(planned(t, 128, 4096, 1024, 40), 533+10+1+3i, api.OK)
	w.ok("truncate 0 0")
	for n := range 4256 {
		w.x.Create(fmt.Sprint("/d/", n))
	}
	want(small, 1064+34+1+4259i, api.OK)
	w.x.Create("/d/z")
	want(small, 0, api.ErrRange)
	for _, p := range []api.Plan{{}, {Block: 64}, {Block: 64, Blocks: 4096, Inodes: 1024, Log: 40}} {
		want(p, 0, api.ErrForm)
	}
	small.Data++
	want(small, 0, api.ErrForm)
	w.x.Unlink("/d/z")
	want(small, 0, api.ErrForm)
}

// TestDumpChangesNothing: P18.9 and P18.6, what only tells changes nothing.
func TestDumpChangesNothing(t *testing.T) {
	w := rich(t)
	before := w.x.Dump()
	for range 3 {
		w.x.Need(planned(t, 64, 100, 10, 8))
		w.x.Need(api.Plan{})
		w.x.Stat("/b")
		w.x.List("/b")
		w.x.Read(0, 0, 10)
		if after := w.x.Dump(); !sameNodes(before, after) {
			t.Fatalf("Dump:%s\nwas%s", show(after), show(before))
		}
	}
	if !strings.HasPrefix(show(before), " /:2,1,1,96") || !bytes.Equal(before[1].Data, []byte("\x00\x00\x00text")) {
		t.Error("Dump:", show(before))
	}
}
