package fsys_test

import (
	"fmt"
	"math"
	"testing"

	"skerry/api"
)

// TestSyncHandles: P19.4, handles that are not open, of all kinds; ones that are.
func TestSyncHandles(t *testing.T) {
	w := begun(t, planned(t, 64, 120, 12, 40), 5, nil, "create /a", "open /a", "open /a", "close 0")
	for _, f := range []int{math.MinInt, -16, -1, 0, 2, 15, 16, 17, 1 << 32, math.MaxInt} {
		w.call(call{name: "fsync", f: f}, api.ErrHandle)
		w.call(call{name: "fdatasync", f: f}, api.ErrHandle)
	}
	w.ok("fsync 1", "fdatasync 1", "fsync 1", "sync", "fdatasync 1", "close 1", "sync", "sync")
	w.want("fsync 1", api.ErrHandle)
	for f := range api.MaxOpen {
		w.ok("open /a")
		w.ok(fmt.Sprint("fsync ", f), fmt.Sprint("fdatasync ", f))
	}
	w.synced("all handles")
}

// TestFsync: P19.4, behind Fsync names, kinds, links, sizes and the file's bytes have arrived, whatever was done ahead of it: a crash that lets nothing else arrive leaves them; so does one that lets some.
func TestFsync(t *testing.T) {
	scripts := [][]string{
		{}, {"write 0 0 xyz"}, {"write 0 5000 xyz"}, {"write 0 0 abc", "truncate 0 1"}, {"truncate 0 700"}, {"truncate 0 0"}, {"create /b"}, {"mkdir /e"}, {"unlink /c"}, {"rmdir /d"}, {"rename /c /d/c"}, {"rename /c /b"}, {"link /a /d/b"}, {"rename /a /d/a"}, {"rename /a /c"}, {"create /b", "unlink /b"}, {"close 0", "open /c", "write 0 0 x"},
		{"write 0 0 a", "fsync 0", "write 0 0 b", "truncate 0 70", "rename /c /b"}, {"truncate 0 0", "write 0 0 " + text(3, 1000)},
	}
	for _, capacity := range []int{1, 4, 100} {
		for mode := range modes {
			for _, script := range scripts {
				x := dice(mode)
				w := begun(t, planned(t, 64, 200, 12, 40), capacity, nil, "create /a", "open /a", "write 0 0 "+text(1, 600), "create /c", "mkdir /d", "sync")
				w.ok(script...)
				w.ok("fsync 0")
				w.arrivedWith(script, crashPicks(&x, mode))
				w.remount(3)
				w.holds(script)
			}
		}
	}
}

// TestFsyncOne: P19.4, Fsync of one file of several: behind it all names and sizes have arrived; of the others' bytes nothing is promised but that they were theirs.
func TestFsyncOne(t *testing.T) {
	w := begun(t, planned(t, 64, 200, 12, 40), 50, nil, "create /a", "open /a", "create /b", "open /b", "write 0 0 "+text(1, 600), "write 1 0 "+text(2, 300), "fsync 0")
	want(t, "Crash", w.d.Crash(nil), api.OK)
	list := dumped(t, w.d)
	for i, n := range w.m.Dump() {
		if !sameMeta(n, list[i]) || n.Path == "/a" && string(n.Data) != string(list[i].Data) {
			t.Errorf("behind Fsync:%s", show(list))
		}
	}
}

// TestFdatasync: P19.4, behind Fdatasync the file's bytes and its Size have arrived, where only bytes were changed, and where the file grew, was cut, or is new.
func TestFdatasync(t *testing.T) {
	for _, capacity := range []int{1, 4, 100} {
		for mode := range modes {
			for _, script := range [][]string{
				{}, {"write 0 0 xyz"}, {"write 0 64 " + text(4, 200)}, {"write 0 5000 xyz"}, {"write 0 700 x"}, {"truncate 0 1"}, {"truncate 0 0"}, {"truncate 0 5000"}, {"truncate 0 0", "write 0 100 " + text(3, 700)}, {"write 1 0 x", "write 0 3 abc"}, {"create /e", "write 0 3 abc"}, {"rename /a /e", "write 0 0 x"}, {"write 0 0 x", "fsync 1", "write 0 0 y"},
				// A hole that is filled: its block is named by a block with pointers alone.
				{"truncate 0 5000", "fsync 0", "write 0 1000 x"}, {"truncate 0 5000", "write 0 4000 y", "sync", "write 0 4200 x"},
			} {
				x := dice(mode)
				w := begun(t, planned(t, 64, 200, 12, 40), capacity, nil, "create /a", "open /a", "write 0 0 "+text(1, 700), "create /b", "open /b", "sync")
				w.ok(script...)
				w.ok("fdatasync 0")
				wanted := string(bytesOf(t, w.m, 0))
				want(t, "Crash", w.d.Crash(crashPicks(&x, mode)), api.OK)
				got, there := inTree(dumped(t, w.d), 2)
				if !there || string(got.Data) != wanted {
					t.Errorf("%q, Fdatasync: %v %d bytes %.40q, should be %d bytes %.40q", script, there, got.Size, got.Data, len(wanted), wanted)
				}
			}
		}
	}
}

// TestFdatasyncAlone: P19.4, where the file's bytes alone were changed, Fdatasync lets them arrive without the log.
func TestFdatasyncAlone(t *testing.T) {
	p := planned(t, 64, 200, 12, 40)
	w := begun(t, p, 50, nil, "create /a", "open /a", "write 0 0 "+text(1, 700), "sync", "write 0 0 "+text(2, 700))
	w.ok("fdatasync 0")
	if list := pendingIn(t, w.d, p); len(list) > 0 {
		t.Errorf("pending: %v", list)
	}
	w.arrived("Fdatasync")
}

// TestSync: P19.4, behind Sync all has arrived, of all files, and nothing is pending.
func TestSync(t *testing.T) {
	p := planned(t, 64, 300, 12, 40)
	for mode := range modes {
		x := dice(mode)
		for _, capacity := range []int{1, 4, 100} {
			w := begun(t, p, capacity, nil, "create /a", "open /a", "create /b", "open /b", "mkdir /d", "sync", "write 0 0 "+text(1, 700), "write 1 30 "+text(2, 900), "rename /a /d/c", "close 0", "sync")
			if list := pendingIn(t, w.d, p); len(list) > 0 || len(w.d.Waiting()) > 0 {
				t.Errorf("pending: %v, waits: %v", list, w.d.Waiting())
			}
			w.arrivedWith("Sync", crashPicks(&x, mode))
			// What comes behind it may be lost; here all of it is.
			w.remount(capacity)
			before := w.m.Dump()
			w.ok("open /d/c", "write 0 700 "+text(4, 700), "truncate 0 0", "unlink /b", "create /e")
			want(t, "Crash", w.d.Crash(nil), api.OK)
			if got := dumped(t, w.d); capacity > 50 && !sameNodes(got, before) {
				t.Errorf("behind a crash:%s\nshould be%s", show(got), show(before))
			}
		}
	}
}

// TestExamples: the chapter's examples, and those of the whole that speak of file systems.
func TestExamples(t *testing.T) {
	p := planned(t, 64, 120, 12, 40)
	w := begun(t, p, 8, nil, "create /a")
	if f := w.want("open /a", api.OK).f; f != 0 {
		t.Errorf("Open: %d", f)
	}
	w.ok("write 0 0 hi", "fsync 0")
	w.arrived("Fsync")
	w.remount(8)
	w.holds("Fsync")
	// Without Fsync: whatever arrives of what waits, and whatever the cache lets go.
	seen := map[string]bool{}
	for mode := range 40 {
		x := dice(mode)
		w := begun(t, p, 1+mode%4, x.picks(5), "create /a", "open /a", "write 0 0 hi", "stat /", "stat /a")
		if mode%2 == 0 {
			want(t, "Fuse", w.d.Fuse(mode/2), api.OK)
			w.s.Fsync(0)
		}
		want(t, "Crash", w.d.Crash(crashPicks(&x, mode%modes)), api.OK)
		list := dumped(t, w.d)
		told := "none"
		if n, there := inTree(list, 2); there {
			told = string(n.Data)
		}
		seen[told] = true
		if len(list) > 2 || told != "none" && told != "" && told != "hi" && told != "\x00\x00" {
			t.Errorf("behind a crash:%s", show(list))
		}
		mount(t, w.d, 8)
	}
	if !seen["none"] || !seen["hi"] {
		t.Errorf("seen: %v", seen)
	}
	// Chapter 18's.
	w = begun(t, p, 8, nil, "create /a", "mkdir /d", "link /a /d/b")
	if st := w.want("stat /d/b", api.OK).stat; st != (api.Stat{Kind: api.KindFile, Inode: 2, Links: 2}) {
		t.Errorf("Stat: %v", st)
	}
	w.ok("unlink /a", "open /d/b")
	w.want("unlink /d/b", api.ErrBusy)
	w.ok("close 0", "unlink /d/b", "create /c")
	if st := w.want("stat /c", api.OK).stat; st.Inode != 2 {
		t.Errorf("Stat: %v", st)
	}
	w.ok("create /a")
	w.want("rename /d /d/x", api.ErrArg)
	w.ok("rename /d /e")
	w.want("create /a/b", api.ErrNotDir)
	w.synced("the examples")
}

// TestFree: P19.6, Free as blocks and inodes are taken and given back; blocks that were given back can be taken behind what lets them arrive.
func TestFree(t *testing.T) {
	p := planned(t, 64, 120, 12, 40)
	w := begun(t, p, 8, nil)
	is := func(blocks, inodes int) {
		t.Helper()
		if b, i := w.left(); b != blocks || i != inodes {
			t.Errorf("Free: %d %d, should be %d %d", b, i, blocks, inodes)
		}
	}
	all := p.Blocks - p.Data
	is(all, 10)
	w.ok("create /a")
	is(all-1, 9)
	w.ok("mkdir /d", "open /a", "write 0 0 "+text(1, 640))
	is(all-12, 8)
	w.ok("truncate 0 64")
	// Ten blocks were given back, and are kept: nine of bytes, one with pointers.
	is(all-12, 8)
	w.ok("fsync 0")
	is(all-2, 8)
	w.ok("write 0 600 x", "fsync 0", "truncate 0 0")
	is(all-4, 8)
	w.ok("fsync 0")
	// The block with pointers is pending in the log.
	is(all-2, 8)
	w.ok("sync")
	is(all-1, 8)
	w.synced("all")
	w.ok("close 0", "unlink /a", "rmdir /d")
	is(all-1, 10)
	w.ok("sync")
	is(all, 10)
}
