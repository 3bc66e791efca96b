package fsys_test

import (
	"fmt"
	"strings"
	"testing"

	"skerry/alloc"
	"skerry/api"
	"skerry/cache"
	"skerry/codec"
	"skerry/device"
	"skerry/file"
	"skerry/group"
	"skerry/inode"
	"skerry/wal"
)

// left answers how many blocks and inodes can be taken.
func (w *world) left() (blocks, inodes int) {
	w.t.Helper()
	free, e := w.s.Free()
	want(w.t, "Free", e, api.OK)
	return int(real(free)), int(imag(free))
}

// fills takes all blocks: by a great file first, then by small ones.
func (w *world) fills(names ...string) {
	w.t.Helper()
	for _, name := range names {
		if w.both(call{name: "create", path: name}).e != api.OK {
			return
		}
		f := w.both(call{name: "open", path: name}).f
		at := 0
		for w.both(call{name: "write", f: f, at: at, data: text(at, w.p.Block)}).e == api.OK {
			at += w.p.Block
		}
		w.both(call{name: "close", f: f})
	}
}

// TestFullDevice: P19.3, a device without a block left: what needs one has no space, and the tree is as it was; what gives back is never refused; what was given back can be taken again.
func TestFullDevice(t *testing.T) {
	for _, p := range []api.Plan{planned(t, 64, 120, 12, 40), planned(t, 128, 130, 12, 40), planned(t, 1024, 90, 40, 40)} {
		for _, capacity := range []int{1, 7, 100} {
			w := begun(t, p, capacity, nil, "mkdir /d", "create /d/x", "create /old", "open /old", "write 0 0 "+text(1, 3*p.Block), "mkdir /gone")
			w.fills("/a", "/b", "/c", "/e")
			w.ok("sync")
			blocks, _ := w.left()
			if blocks > 2 {
				t.Fatalf("%v: %d blocks are left", p, blocks)
			}
			for ; blocks > 0; blocks-- {
				w.ok("write 0 "+fmt.Sprint((2+blocks)*p.Block)+" x", "fsync 0")
			}
			if blocks, _ = w.left(); blocks != 0 {
				t.Fatalf("%v: %d blocks are left", p, blocks)
			}
			w.synced("all taken")
			// Each of these needs a block.
			w.want("write 0 "+fmt.Sprint(7*p.Block)+" y", api.ErrNoSpace)
			for i := range p.Block / 16 {
				if w.both(call{name: "create", path: fmt.Sprint("/gone/", i)}).e == api.OK {
					t.Error("a directory's block was taken")
				}
			}
			w.holds("no space")
			w.ok("read 0 0 4096", "stat /d", "list /", "write 0 5 z", fmt.Sprint("truncate 0 ", most(p)), "truncate 0 64", "truncate 0 64", "truncate 0 1", "unlink /d/x", "rmdir /d", "rmdir /gone", "truncate 0 0", "close 0")
			w.holds("given back")
			w.ok("open /old", "write 0 0 "+text(2, 3*p.Block), "unlink /a", "mkdir /gone", "create /gone/new")
			w.synced("taken again")
		}
	}
}

// TestNoInodes: P19.3, a device without an inode left: Create and Mkdir have no space, behind all errors that the tree has; what was given back can be taken again at once.
func TestNoInodes(t *testing.T) {
	p := planned(t, 64, 300, 6, 40)
	w := begun(t, p, 5, nil, "create /a", "mkdir /b", "create /b/c", "create /b/d")
	if _, inodes := w.left(); inodes != 0 {
		t.Fatalf("%d inodes are left", inodes)
	}
	for _, name := range []string{"create ", "mkdir "} {
		w.want(name+"/e", api.ErrNoSpace)
		w.want(name+"/b/e", api.ErrNoSpace)
		w.want(name+"/a", api.ErrExists)
		w.want(name+"/", api.ErrExists)
		w.want(name+"/none/e", api.ErrNone)
		w.want(name+"/a/e", api.ErrNotDir)
		w.want(name+"/E", api.ErrName)
	}
	w.ok("link /a /e", "rename /e /f", "unlink /b/c", "mkdir /e")
	w.want("create /g", api.ErrNoSpace)
	w.ok("rename /b/d /f", "rmdir /e", "create /g")
	w.synced("inodes again")
	// The root alone takes the only inode of such a plan.
	w = begun(t, planned(t, 64, 100, 2, 40), 5, nil)
	w.want("create /a", api.ErrNoSpace)
	w.want("mkdir /a", api.ErrNoSpace)
	w.holds("no inodes")
}

// TestGivenBack: P19.3, what needs not more than the half of a device has space, though blocks that were given back can be taken only behind a commit, or behind one and what is pending applied.
func TestGivenBack(t *testing.T) {
	p := planned(t, 64, 200, 40, 40)
	w := begun(t, p, 4, []int{1, 2, 0, 3}, "create /a", "open /a", "create /b", "open /b", "mkdir /d")
	long := text(1, 30*64)
	for i := range 60 {
		f := fmt.Sprint(i % 2)
		w.ok("write "+f+" 0 "+long, "truncate "+f+" 0")
		switch i % 7 {
		case 2:
			w.ok("fsync 0")
		case 3:
			w.ok("fdatasync 1")
		}
	}
	// Blocks of directories and blocks with pointers are pending in the log when they are given back.
	for i := range 30 {
		for k := range 9 {
			w.ok(fmt.Sprint("create /d/", k))
		}
		w.ok("fsync 0")
		for k := range 9 {
			w.ok(fmt.Sprint("unlink /d/", k))
		}
		w.ok("write 0 0 "+long, "fsync 1", "truncate 0 0")
		if i%3 == 0 {
			w.ok("fsync 0")
		}
	}
	// A file that stands in the place of another one.
	for i := range 30 {
		w.ok("create /new", "open /new", "write 2 0 "+long[:20*64], "close 2", "rename /new /old")
		if i%4 == 0 {
			w.ok("fsync 0")
		}
	}
	w.synced("all")
}

// TestPendingGivenBack: P19.3, blocks that were given back when they were pending in the log can be taken again, where no other ones are left, though nothing more is to be committed.
func TestPendingGivenBack(t *testing.T) {
	p := planned(t, 64, 300, 10, 190)
	w := begun(t, p, 9, nil, "create /f", "create /a", "open /a", "mkdir /d", "mkdir /e")
	half := (p.Blocks - p.Data) / 2
	for _, d := range []string{"/d/", "/e/"} {
		for i := range 4 * (half - 5) {
			w.ok(fmt.Sprint("link /f ", d, i))
		}
		w.ok("fsync 0")
		for i := range 4 * (half - 5) {
			w.ok(fmt.Sprint("unlink ", d, i))
		}
		w.ok("fsync 0")
	}
	if blocks, _ := w.left(); blocks >= half-5 {
		t.Errorf("%d of %d blocks can be taken: too few are kept for this test", blocks, 2*half)
	}
	w.ok("write 0 0 "+text(1, (half-5)*64), "sync")
	w.synced("all")
}

// TestTwice: P19.3, files and directories that come to just the half of what there is are never refused, whatever was there ahead of them.
func TestTwice(t *testing.T) {
	for seed := range 20 {
		x := dice(300 + seed)
		p := planned(t, 64, 150+x.below(200), 30, 40)
		w := begun(t, p, 1+x.below(9), x.picks(50), "create /a", "open /a", "mkdir /d")
		for range 120 {
			c := pick(&x, []call{
				{name: "write", at: x.below(40) * 64, data: text(x.below(99), x.below(1000))}, {name: "truncate", n: x.below(50 * 64)}, {name: "truncate"},
				{name: "create", path: fmt.Sprint("/d/", x.below(15))}, {name: "unlink", path: fmt.Sprint("/d/", x.below(15))}, {name: "fsync"}, {name: "rename", old: fmt.Sprint("/d/", x.below(15)), path: fmt.Sprint("/d/", x.below(15))},
			})
			// Only what would fit twice is asked for.
			wanted := do(w.m, c)
			need, e := w.m.Need(p)
			fits := e == api.OK && w.twice(need)
			w.again()
			if !fits {
				continue
			}
			if a := w.both(c); a.e != wanted.e {
				t.Fatalf("seed %d: %v: %d, should be %d", seed, c, a.e, wanted.e)
			}
		}
		w.synced("half")
	}
}

// great lays a device by hand on which the directory /d has names of the file /f alone, n of them.
func great(t *testing.T, p api.Plan, n int) *device.Device {
	t.Helper()
	d := formatted(t, p)
	l, e := wal.Open(d, p)
	want(t, "wal.Open", e, api.OK)
	c, e := cache.New(d, 100, nil)
	want(t, "cache.New", e, api.OK)
	g, e := group.New(d, l, c, p)
	want(t, "group.New", e, api.OK)
	a, e := alloc.New(g, p)
	want(t, "alloc.New", e, api.OK)
	u, e := inode.New(a, p)
	want(t, "inode.New", e, api.OK)
	var names []byte
	for i := range n {
		raw, e := codec.Dirent(api.Dirent{Inode: 2, Name: fmt.Sprint("n", i)})
		want(t, "Dirent", e, api.OK)
		names = append(names, raw...)
	}
	step := func(do func(o *group.Op) api.Errno) {
		t.Helper()
		o, e := g.Begin()
		want(t, "Begin", e, api.OK)
		want(t, "an operation", do(o), api.OK)
		want(t, "End", o.End(), api.OK)
	}
	step(func(o *group.Op) api.Errno {
		two, _ := a.Inode(o)
		three, _ := a.Inode(o)
		want(t, "Put", u.Put(o, two, api.Inode{Kind: api.KindFile, Links: n + 1}), api.OK)
		want(t, "Put", u.Put(o, three, api.Inode{Kind: api.KindDir, Links: 1}), api.OK)
		want(t, "Put", u.Put(o, 1, api.Inode{Kind: api.KindDir, Links: 1}), api.OK)
		root, _ := codec.Dirent(api.Dirent{Inode: 2, Name: "f"})
		other, _ := codec.Dirent(api.Dirent{Inode: 3, Name: "d"})
		return file.Write(o, u, p, 1, 0, append(root, other...))
	})
	for at := 0; at < len(names); at += 1024 {
		step(func(o *group.Op) api.Errno {
			return file.Write(o, u, p, 3, at, names[at:min(len(names), at+1024)])
		})
	}
	want(t, "Settle", g.Settle(), api.OK)
	return d
}

// TestGreatDirectory: P19.3, a directory that has as many names as the greatest file has room for: one more has no space; all else is done as ever.
func TestGreatDirectory(t *testing.T) {
	p := planned(t, 64, 4096, 12, 60)
	n := most(p) / 16
	d := great(t, p, n-1)
	w := &world{t: t, p: p, d: d, s: mount(t, d, 60), m: newTree(t, p)}
	for _, c := range append([]call{parse("create /f"), parse("mkdir /d")}, links(n-1)...) {
		want(t, "a tree's call", do(w.m, c).e, api.OK)
		w.done = append(w.done, c)
	}
	if got := dumped(t, d); !sameNodes(got, w.m.Dump()) {
		t.Fatal("the device that was laid by hand is another one")
	}
	w.want("link /f /d/n5", api.ErrExists)
	w.ok("link /f /d/last", "create /g")
	for _, line := range []string{"link /f /d/more", "create /d/more", "mkdir /d/more", "rename /g /d/more"} {
		w.want(line, api.ErrNoSpace)
	}
	w.want("link /f /d/last", api.ErrExists)
	w.want("link /none /d/more", api.ErrNone)
	// No name more: one stands for another.
	w.ok("rename /d/n7 /d/renamed", "rename /g /d/n8", "rename /d/last /d/renamed", "unlink /d/n9", "create /g", "rename /g /d/more")
	w.ok("rename /d /e", "unlink /e/more", "create /e/most")
	w.want("create /e/more", api.ErrNoSpace)
	w.synced("a great directory")
}

// links answers the calls that name /f n times in /d.
func links(n int) []call {
	var list []call
	for i := range n {
		list = append(list, call{name: "link", old: "/f", path: fmt.Sprint("/d/n", i)})
	}
	return list
}

// TestManyLinks: P19.3, a file with as many names as there may be: ErrLarge, as the tree answers.
func TestManyLinks(t *testing.T) {
	p := planned(t, 64, 4096, 12, 60)
	// A cache of one block holds nothing of the inode that is changed below it.
	w := begun(t, p, 1, nil, "create /f", "create /g", "sync", "stat /")
	// No device has room for so many names. The image is not sound with this, but one that is mounted is not asked for that.
	raw, e := codec.Inode(api.Inode{Kind: api.KindFile, Links: 65534})
	want(t, "Inode", e, api.OK)
	block, at := p.Table+2*32/64, 2*32%64
	data, _ := w.d.Read(block)
	copy(data[at:], raw)
	want(t, "Load", w.d.Load(block, data), api.OK)
	s := w.s
	want(t, "Link", s.Link("/f", "/a"), api.OK)
	want(t, "Link", s.Link("/f", "/b"), api.ErrLarge)
	want(t, "Link", s.Link("/f", "/a"), api.ErrLarge)
	want(t, "Link", s.Link("/f", "/none/a"), api.ErrLarge)
	want(t, "Link", s.Link("/f", "/"), api.ErrLarge)
	want(t, "Link", s.Link("/f", "/B"), api.ErrName)
	want(t, "Link", s.Link("/none", "/b"), api.ErrNone)
	want(t, "Unlink", s.Unlink("/a"), api.OK)
	want(t, "Link", s.Link("/f", "/b"), api.OK)
	if st, e := s.Stat("/b"); st.Links != 65535 || e != api.OK {
		t.Errorf("Stat: %v %d", st, e)
	}
	want(t, "Rename", s.Rename("/b", "/c"), api.OK)
	want(t, "Rename", s.Rename("/c", "/g"), api.OK)
	want(t, "Link", s.Link("/f", "/b"), api.ErrLarge)
}

// TestSmallLogs: P19.3, with a Log below 40 a call may be ErrLarge, and the tree is as it was; with one of 40 none is. The greatest calls are tried on a device of many blocks, whose files lie all over it.
func TestSmallLogs(t *testing.T) {
	for _, n := range []int{4, 5, 6, 8, 11, 15, 39, 40} {
		large := 0
		for seed := range 4 {
			x := dice(700 + seed)
			y := themes()[seed]
			w := begun(t, planned(t, 64, 500, 40, n), 1+x.below(20), x.picks(20))
			for range 150 {
				if a := w.both(y.anyCall(&x, w, []string{"a", "b", "c"})); a.e == api.ErrLarge {
					large++
				}
				if x.below(30) == 0 {
					w.holds("a small log")
				}
			}
			w.synced("a small log")
		}
		if n < 6 && large == 0 {
			t.Errorf("no call is ErrLarge with a log of %d blocks", n)
		}
	}
}

// TestGreatest: P19.3, with a Log of 40 no call is too large for it, whatever it cuts, takes and names.
func TestGreatest(t *testing.T) {
	p := planned(t, 64, 4096, 1024, 40)
	w := &world{t: t, p: p, d: formatted(t, p), m: newTree(t, p)}
	w.s = mount(t, w.d, 400)
	w.ok("create /a", "create /b", "create /c", "open /a", "open /b", "open /c", "mkdir /d", "mkdir /e")
	// Their blocks lie one beside another, all over the device, and so each of them has bits in all blocks of the bitmap.
	for at := 0; at < most(p); at += 3 * 64 {
		for f := range 3 {
			if e := w.s.Write(f, at, []byte(text(f, 192))[:min(192, most(p)-at)]); e != api.OK {
				t.Fatalf("Write at %d: %d", at, e)
			}
			do(w.m, call{name: "write", f: f, at: at, data: text(f, 192)[:min(192, most(p)-at)]})
		}
	}
	if blocks, _ := w.left(); blocks > 300 {
		t.Fatalf("%d blocks are left", blocks)
	}
	w.ok("truncate 0 33", "close 0", "close 1", "close 2", "sync")
	// Names whose directories shrink and grow by blocks with pointers at the same time.
	for i := range 33 {
		w.ok(fmt.Sprint("link /b /d/", i), fmt.Sprint("link /c /e/", i))
	}
	w.ok("unlink /b")
	for i := range 32 {
		w.ok(fmt.Sprint("unlink /d/", i))
	}
	w.ok("rename /a /d/32", "open /c", "write 0 31 "+text(5, 4096), "truncate 0 2500")
	w.ok("write 0 2550 "+text(6, 4096), "write 0 60000 "+text(7, 4096), "write 0 "+fmt.Sprint(most(p)-4096)+" "+text(8, 4096), "truncate 0 0", "close 0", "rename /d/32 /c")
	w.synced("the greatest calls")
}

// TestTreesErrorsFirst: P19.3, on a device that is full, whose log is small, what the tree refuses is refused as the tree does.
func TestTreesErrorsFirst(t *testing.T) {
	for _, n := range []int{4, 40} {
		p := planned(t, 64, 120, 6, n)
		d := formatted(t, planned(t, 64, 120, 6, n))
		w := &world{t: t, p: p, d: d, s: mount(t, d, 5), m: newTree(t, p)}
		for _, line := range strings.Split("create /A,mkdir /,link /none /x,rename / /a,rename /none /a,unlink /,unlink /a,rmdir /,rmdir /a,stat /a,list /a,open /,open /a,close 0,read 0 0 0,write 0 0 x,truncate 0 0,fsync 0,fdatasync 0,create /a/b", ",") {
			if w.both(parse(line)).e == api.OK {
				t.Errorf("%s: OK", line)
			}
		}
		w.holds("refused calls")
	}
}
