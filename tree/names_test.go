package tree_test

import (
	"fmt"
	"slices"
	"testing"

	"skerry/api"
)

// TestCreate: P18.2, new files and directories, in the root and below, and what is in their way.
func TestCreate(t *testing.T) {
	for name, kind := range map[string]int{"create ": api.KindFile, "mkdir ": api.KindDir} {
		w := begun(t, 1000, "mkdir /d", "create /f")
		w.ok(name+"/a", name+"/d/a", name+"/-", name+"/...")
		w.stat("/a", kind, 4, 1, 0)
		w.stat("/d/a", kind, 5, 1, 0)
		w.stat("/-", kind, 6, 1, 0)
		w.stat("/...", kind, 7, 1, 0)
		for _, path := range []string{"/a", "/d", "/f", "/d/a", "/"} {
			w.want(name+path, api.ErrExists)
		}
		w.want(name+"/none/a", api.ErrNone)
		w.want(name+"/d/none/a", api.ErrNone)
		w.want(name+"/f/a", api.ErrNotDir)
		w.want(name+"/f/f", api.ErrNotDir)
		w.want(name+"/f/none/a", api.ErrNotDir)
		// The same name elsewhere is another one.
		w.ok(name+"/f2", name+"/d/f", name+"/d/d")
		w.list("/d", fmt.Sprint("a:", kind, ":5"), fmt.Sprint("d:", kind, ":10"), fmt.Sprint("f:", kind, ":9"))
	}
}

// TestNumbers: P18.2, a new thing has the least number from 2 on that no thing has, of files and directories alike, behind things that are gone in whatever way.
func TestNumbers(t *testing.T) {
	w := begun(t, 1000, "create /a", "mkdir /b", "create /c", "mkdir /d", "create /b/e", "mkdir /b/f")
	w.list("/", "a:1:2", "b:2:3", "c:1:4", "d:2:5")
	w.list("/b", "e:1:6", "f:2:7")
	w.ok("unlink /c", "unlink /a", "mkdir /g")
	w.stat("/g", api.KindDir, 2, 1, 0)
	w.ok("create /h", "create /i")
	w.stat("/h", api.KindFile, 4, 1, 0)
	w.stat("/i", api.KindFile, 8, 1, 0)
	w.ok("rmdir /d", "unlink /b/e", "create /j", "mkdir /j2", "mkdir /k")
	w.stat("/j", api.KindFile, 5, 1, 0)
	w.stat("/j2", api.KindDir, 6, 1, 0)
	w.stat("/k", api.KindDir, 9, 1, 0)
	// What another name is left of has its number still.
	w.ok("link /j /l", "unlink /j", "create /m")
	w.stat("/l", api.KindFile, 5, 1, 0)
	w.stat("/m", api.KindFile, 10, 1, 0)
	// What Rename lets be gone gives its number back too, be it a file or a directory.
	w.ok("rename /m /l", "create /n")
	w.stat("/l", api.KindFile, 10, 1, 0)
	w.stat("/n", api.KindFile, 5, 1, 0)
	w.ok("rename /k /j2", "create /o")
	w.stat("/j2", api.KindDir, 9, 1, 0)
	w.stat("/o", api.KindFile, 6, 1, 0)
	// No call that is refused takes one.
	w.want("create /o", api.ErrExists)
	w.want("mkdir /none/o", api.ErrNone)
	w.want("create /o/o", api.ErrNotDir)
	w.want("mkdir /", api.ErrExists)
	w.want("create /O", api.ErrName)
	w.ok("create /p")
	w.stat("/p", api.KindFile, 11, 1, 0)
}

// TestGaps: P18.2, of numbers that were given back in any order the least one comes first, and behind them one more than all.
func TestGaps(t *testing.T) {
	x := dice(7)
	for range 30 {
		w := begun(t, 1000)
		var there []string
		for i := range 12 {
			path := fmt.Sprint("/", i)
			w.ok(pick(&x, []string{"create ", "mkdir "}) + path)
			there = append(there, path)
		}
		for k := range 60 {
			if n := x.below(5); n < 2 && len(there) > 0 || k < 12 {
				i := x.below(len(there))
				if w.m.things[w.m.paths[there[i]]].kind == api.KindDir {
					w.ok("rmdir " + there[i])
				} else {
					w.ok("unlink " + there[i])
				}
				there = slices.Delete(there, i, i+1)
				continue
			}
			path := fmt.Sprint("/new", k)
			w.ok(pick(&x, []string{"create ", "mkdir "}) + path)
			there = append(there, path)
		}
	}
}

// TestMany: P18.2 and P18.6, many things in one directory, and many numbers that are given back and taken.
func TestMany(t *testing.T) {
	const n = 20000
	x := made(t, 1000)
	path := func(i int) string { return fmt.Sprintf("/%05d", i*7919%n) }
	for i := range n {
		if e := x.Create(path(i)); e != api.OK {
			t.Fatal("Create: ", e)
		}
	}
	if s, e := x.Stat("/"); s != (api.Stat{Kind: api.KindDir, Inode: 1, Links: 1, Size: 16 * n}) || e != api.OK {
		t.Error("Stat: ", s, e)
	}
	list, e := x.List("/")
	if len(list) != n || e != api.OK {
		t.Fatal("List: ", len(list), e)
	}
	at := map[string]int{}
	for i := range n {
		at[path(i)] = i + 2
	}
	for i, entry := range list {
		if wanted := (api.Entry{Name: fmt.Sprintf("%05d", i), Kind: api.KindFile, Inode: at["/"+entry.Name]}); entry != wanted {
			t.Fatalf("List: %v, should be %v", entry, wanted)
		}
	}
	for i := n - 1; i >= 0; i -= 2 {
		x.Unlink(path(i))
	}
	for i := 1; i < n; i += 2 {
		name := fmt.Sprintf("/d%d", i)
		x.Mkdir(name)
		if s, _ := x.Stat(name); s.Inode != i+2 {
			t.Fatalf("%s has number %d, should have %d", name, s.Inode, i+2)
		}
	}
	x.Create("/last")
	if s, _ := x.Stat("/last"); s.Inode != n+2 {
		t.Errorf("the last one has number %d", s.Inode)
	}
}

// TestLink: P18.3, one more name of a file, in its directory and in others, and what is in the way, in the chapter's order.
func TestLink(t *testing.T) {
	w := begun(t, 1000, "create /a", "open /a", "write 0 0 text", "mkdir /d", "mkdir /d/e", "create /f")
	w.ok("link /a /b", "link /b /d/a", "link /d/a /d/e/c")
	for _, path := range []string{"/a", "/b", "/d/a", "/d/e/c"} {
		w.stat(path, api.KindFile, 2, 4, 4)
	}
	w.list("/d", "a:1:2", "e:2:4")
	w.ok("open /d/e/c")
	w.read(1, "text")
	w.ok("write 1 4 more")
	w.read(0, "textmore")
	w.stat("/b", api.KindFile, 2, 4, 8)
	// A directory, whatever the other path is.
	for _, path := range []string{"/new", "/d", "/a", "/", "/none/new", "/a/new", "/d/new"} {
		w.want("link /d "+path, api.ErrIsDir)
		w.want("link /d/e "+path, api.ErrIsDir)
	}
	// A name that is there, the file's own too.
	for _, path := range []string{"/", "/a", "/b", "/d", "/f", "/d/a", "/d/e", "/d/e/c"} {
		w.want("link /a "+path, api.ErrExists)
	}
	w.want("link /a /none/new", api.ErrNone)
	w.want("link /a /d/none/new", api.ErrNone)
	w.want("link /a /f/new", api.ErrNotDir)
	w.want("link /a /a/new", api.ErrNotDir)
	w.want("link /a /d/a/new", api.ErrNotDir)
	// The first path is walked ahead of all that is amiss with the second one.
	for _, path := range []string{"/", "/a", "/none/new", "/f/new"} {
		w.want("link /none "+path, api.ErrNone)
		w.want("link /f/none "+path, api.ErrNotDir)
	}
}

// TestMostLinks: P18.3, a file has at most 65535 names: then ErrLarge, ahead of all that Create of the other path would answer, behind all that is amiss with the first one.
func TestMostLinks(t *testing.T) {
	x := made(t, 1000)
	x.Create("/a")
	x.Mkdir("/d")
	for i := 1; i < 65535; i++ {
		if e := x.Link("/a", fmt.Sprintf("/d/%d", i)); e != api.OK {
			t.Fatal("Link: ", i, e)
		}
	}
	stat := func(path string, wanted api.Stat) {
		t.Helper()
		if s, e := x.Stat(path); s != wanted || e != api.OK {
			t.Errorf("Stat(%s): %v %d", path, s, e)
		}
	}
	want := func(got, e api.Errno) {
		t.Helper()
		if got != e {
			t.Errorf("%d, should be %d", got, e)
		}
	}
	stat("/a", api.Stat{Kind: api.KindFile, Inode: 2, Links: 65535})
	stat("/d", api.Stat{Kind: api.KindDir, Inode: 3, Links: 1, Size: 16 * 65534})
	for _, path := range []string{"/new", "/d/new", "/", "/a", "/d", "/d/7", "/none/new", "/a/new"} {
		want(x.Link("/a", path), api.ErrLarge)
		want(x.Link("/d/65534", path), api.ErrLarge)
		want(x.Link("/none", path), api.ErrNone)
		want(x.Link("/a/none", path), api.ErrNotDir)
		want(x.Link("/d", path), api.ErrIsDir)
	}
	want(x.Link("/a", "new"), api.ErrName)
	stat("/a", api.Stat{Kind: api.KindFile, Inode: 2, Links: 65535})
	// Names may change, and directories and other files come beside it.
	want(x.Rename("/a", "/b"), api.OK)
	want(x.Create("/d/new"), api.OK)
	want(x.Link("/d/new", "/new"), api.OK)
	want(x.Link("/b", "/more"), api.ErrLarge)
	want(x.Unlink("/d/9"), api.OK)
	stat("/b", api.Stat{Kind: api.KindFile, Inode: 2, Links: 65534})
	want(x.Link("/b", "/"), api.ErrExists)
	want(x.Link("/b", "/none/more"), api.ErrNone)
	want(x.Link("/b", "/more"), api.OK)
	want(x.Link("/b", "/evermore"), api.ErrLarge)
	// One name less by Rename.
	want(x.Rename("/d/new", "/d/7"), api.OK)
	stat("/b", api.Stat{Kind: api.KindFile, Inode: 2, Links: 65534})
	want(x.Link("/b", "/evermore"), api.OK)
	if n := len(x.Dump()); n != 65535+2+2 {
		t.Errorf("%d nodes", n)
	}
}

// TestUnlink: P18.4, names of files, one of several and the last one, while the file is open and not.
func TestUnlink(t *testing.T) {
	w := begun(t, 1000, "create /a", "mkdir /d", "link /a /d/b", "link /a /c", "open /a", "write 0 0 text")
	w.ok("unlink /d/b")
	w.want("stat /d/b", api.ErrNone)
	w.stat("/a", api.KindFile, 2, 2, 4)
	w.stat("/d", api.KindDir, 3, 1, 0)
	// The name by which it was opened may go: another one is left.
	w.ok("unlink /a")
	w.stat("/c", api.KindFile, 2, 1, 4)
	w.read(0, "text")
	w.want("unlink /c", api.ErrBusy)
	w.ok("open /c", "open /c", "close 1")
	w.want("unlink /c", api.ErrBusy)
	w.ok("close 0")
	w.want("unlink /c", api.ErrBusy)
	w.read(2, "text")
	w.ok("close 2", "unlink /c")
	w.list("/", "d:2:3")
	w.want("unlink /c", api.ErrNone)
	w.want("open /c", api.ErrNone)
	// A new file of that number has nothing of the old one.
	w.ok("create /c", "open /c")
	w.stat("/c", api.KindFile, 2, 1, 0)
	w.read(0, "")
	// That another file is open is no matter.
	w.ok("create /e", "unlink /e")
	w.want("unlink /d", api.ErrIsDir)
	w.want("unlink /", api.ErrIsDir)
	w.want("unlink /none", api.ErrNone)
	w.want("unlink /d/c", api.ErrNone)
	w.want("unlink /c/c", api.ErrNotDir)
	w.want("unlink /none/c", api.ErrNone)
	w.ok("create /d/c")
	w.want("unlink /d", api.ErrIsDir)
}

// TestRmdir: P18.4, directories with names and without, and what is no directory.
func TestRmdir(t *testing.T) {
	w := begun(t, 1000, "mkdir /d", "mkdir /d/e", "create /f", "open /f")
	w.want("rmdir /d", api.ErrNotEmpty)
	w.want("rmdir /f", api.ErrNotDir)
	w.want("rmdir /f/x", api.ErrNotDir)
	w.want("rmdir /", api.ErrBusy)
	w.want("rmdir /none", api.ErrNone)
	w.want("rmdir /none/x", api.ErrNone)
	w.want("rmdir /d/none", api.ErrNone)
	w.ok("rmdir /d/e")
	w.want("stat /d/e", api.ErrNone)
	w.stat("/d", api.KindDir, 2, 1, 0)
	w.ok("create /d/f")
	w.want("rmdir /d", api.ErrNotEmpty)
	w.want("rmdir /d/f", api.ErrNotDir)
	w.ok("unlink /d/f", "rmdir /d")
	w.list("/", "f:1:4")
	w.want("rmdir /d", api.ErrNone)
	w.want("create /d/f", api.ErrNone)
	w.ok("mkdir /d")
	w.stat("/d", api.KindDir, 2, 1, 0)
}

// TestStat: P18.6, kinds, numbers, links and sizes of files, directories and the root.
func TestStat(t *testing.T) {
	w := begun(t, 5000, "mkdir /d", "create /f", "open /f", "write 0 0 text")
	w.stat("/", api.KindDir, 1, 1, 32)
	w.stat("/d", api.KindDir, 2, 1, 0)
	w.stat("/f", api.KindFile, 3, 1, 4)
	w.ok("truncate 0 5000", "mkdir /d/e", "create /d/f", "link /f /d/g", "link /f /d/e/h")
	w.stat("/f", api.KindFile, 3, 3, 5000)
	w.stat("/d/g", api.KindFile, 3, 3, 5000)
	// Directories below one are no links of it, and what is below them does not count.
	w.stat("/d", api.KindDir, 2, 1, 48)
	w.stat("/d/e", api.KindDir, 4, 1, 16)
	w.stat("/", api.KindDir, 1, 1, 32)
	w.ok("unlink /d/g", "unlink /d/f")
	w.stat("/d", api.KindDir, 2, 1, 16)
	w.ok("rename /d/e /e")
	w.stat("/d", api.KindDir, 2, 1, 0)
	w.stat("/", api.KindDir, 1, 1, 48)
}

// TestList: P18.6, names rising by their bytes, of directories and of the root.
func TestList(t *testing.T) {
	w := begun(t, 1000)
	w.list("/")
	names := []string{"b", "a", "-", "_", ".a", "...", "0", "9", "10", "a.b", "a-b", "a_b", "ab", "aa", "z", "a0", thirteen, thirteen[:12], "-a"}
	for i, name := range names {
		w.ok([]string{"create /", "mkdir /"}[i%2] + name)
	}
	w.list("/", "-:1:4", "-a:1:20", "...:2:7", ".a:1:6", "0:1:8", "10:1:10", "9:2:9", "_:2:5", "a:2:3", "a-b:1:12", "a.b:2:11", "a0:2:17", "a_b:2:13", "aa:2:15", "ab:1:14", "abcdefghijkl:2:19", "abcdefghijklm:1:18", "b:1:2", "z:1:16")
	w.list("/a")
	w.ok("link /b /a/y", "mkdir /a/x", "create /a/x/w")
	w.list("/a", "x:2:21", "y:1:2")
	w.list("/a/x", "w:1:22")
	w.want("list /b", api.ErrNotDir)
	w.want("list /a/y", api.ErrNotDir)
	w.want("list /b/x", api.ErrNotDir)
	w.want("list /none", api.ErrNone)
	w.want("list /none/x", api.ErrNone)
}
