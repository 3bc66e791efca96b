package tree_test

import (
	"strings"
	"testing"

	"skerry/api"
)

// TestRename: P18.5, files and directories, with what is below them, to other names and into other directories: all else of them is as it was.
func TestRename(t *testing.T) {
	w := begun(t, 1000, "mkdir /d", "mkdir /d/e", "create /d/e/f", "link /d/e/f /d/g", "create /a", "open /d/g", "write 0 0 text", "mkdir /x", "open /a", "write 1 2 more")
	w.ok("rename /a /b")
	w.want("stat /a", api.ErrNone)
	w.stat("/b", api.KindFile, 5, 1, 6)
	w.read(1, "\x00\x00more")
	w.ok("rename /b /d/e/b", "rename /d/e/b /x/c")
	w.stat("/x/c", api.KindFile, 5, 1, 6)
	w.want("unlink /x/c", api.ErrBusy)
	w.ok("rename /d /x/y")
	w.want("stat /d", api.ErrNone)
	w.stat("/x/y", api.KindDir, 2, 1, 32)
	w.stat("/x/y/e", api.KindDir, 3, 1, 16)
	w.stat("/x/y/e/f", api.KindFile, 4, 2, 4)
	w.stat("/x/y/g", api.KindFile, 4, 2, 4)
	w.list("/x", "c:1:5", "y:2:2")
	w.list("/x/y", "e:2:3", "g:1:4")
	w.read(0, "text")
	// Out again, a directory from below another one.
	w.ok("rename /x/y/e /e", "rename /x/y /d", "create /new")
	w.stat("/e/f", api.KindFile, 4, 2, 4)
	w.stat("/x", api.KindDir, 6, 1, 16)
	w.stat("/new", api.KindFile, 7, 1, 0)
	w.list("/", "d:2:2", "e:2:3", "new:1:7", "x:2:6")
	// Below the directory that it was ahead of, and back.
	w.ok("rename /x /e/x", "rename /e/x/c /e/c", "rename /e /d/e", "rename /d/e/x /x", "rename /d /x/d")
	w.stat("/x/d/e/c", api.KindFile, 5, 1, 6)
}

// TestRenameSame: P18.5, a path onto itself, and two names of one file: OK, and nothing changes; behind the errors that come ahead of that.
func TestRenameSame(t *testing.T) {
	w := begun(t, 1000, "create /a", "link /a /b", "mkdir /d", "link /a /d/c", "create /d/f", "open /a", "mkdir /e")
	for _, line := range []string{
		"rename /a /a", "rename /b /b", "rename /d /d", "rename /e /e", "rename /d/f /d/f", "rename /a /b", "rename /b /a", "rename /a /d/c", "rename /d/c /a",
	} {
		before := w.x.Dump()
		w.want(line, api.OK)
		if after := w.x.Dump(); !sameNodes(after, before) {
			t.Errorf("%s:%s\nwas%s", line, show(after), show(before))
		}
	}
	// One path that is an open file's last name, and one that is full of names.
	w.ok("unlink /b", "unlink /a", "rename /d/c /d/c", "rename /d /d")
	// No path onto itself that is not there, or whose walk ends.
	w.want("rename /none /none", api.ErrNone)
	w.want("rename /none/x /none/x", api.ErrNone)
	w.want("rename /d/c/x /d/c/x", api.ErrNotDir)
	w.want("rename / /", api.ErrBusy)
}

// TestRenameAbove: P18.5, a path above the other one: ErrArg, of a directory and of a file, ahead of all that is amiss with the other path.
func TestRenameAbove(t *testing.T) {
	w := begun(t, 1000, "mkdir /d", "mkdir /d/e", "create /d/f", "create /a", "mkdir /e")
	for _, line := range []string{"/d /d/x", "/d /d/e", "/d /d/f", "/d /d/e/x", "/d /d/none/x", "/d /d/f/x", "/a /a/x", "/a /a/x/y", "/e /e/x", "/d/e /d/e/x", "/d/f /d/f/x", "/d /d/d"} {
		w.want("rename "+line, api.ErrArg)
	}
	// Behind what is amiss with the first path.
	w.want("rename /none /none/x", api.ErrNone)
	w.want("rename /a/x /a/x/y", api.ErrNotDir)
	// Names that begin alike are not above one another, and the one that is below may come up.
	w.ok("rename /d /dd", "rename /dd /d", "rename /d/e /d2", "rename /d2 /d/e")
	w.want("rename /d/e /d", api.ErrNotEmpty)
	w.want("rename /d/f /d", api.ErrIsDir)
	w.ok("rename /e /ee", "rename /ee /e", "rename /d/f /df")
	w.want("rename /d/e /d", api.ErrNotEmpty)
}

// TestRenameOnto: P18.5, a path that is there: files onto files, directories onto directories without names, and all others.
func TestRenameOnto(t *testing.T) {
	w := begun(t, 1000, "create /a", "create /b", "open /b", "write 0 0 text", "mkdir /d", "mkdir /d/x", "mkdir /e", "create /e/f", "mkdir /n", "create /c", "link /c /n2")
	// A file onto a directory, with names and without, and the other way round.
	w.want("rename /a /d", api.ErrIsDir)
	w.want("rename /a /n", api.ErrIsDir)
	w.want("rename /d /a", api.ErrNotDir)
	w.want("rename /n /a", api.ErrNotDir)
	w.want("rename /n /b", api.ErrNotDir)
	w.want("rename /d /e", api.ErrNotEmpty)
	w.want("rename /n /e", api.ErrNotEmpty)
	w.want("rename /a /b", api.ErrBusy)
	w.want("rename /e/f /b", api.ErrBusy)
	// What is open may come onto another file itself.
	w.ok("rename /b /a")
	w.stat("/a", api.KindFile, 3, 1, 4)
	w.want("stat /b", api.ErrNone)
	w.read(0, "text")
	w.ok("create /b")
	w.stat("/b", api.KindFile, 2, 1, 0)
	// One of two names of an open file gives way, the last one does not.
	w.ok("link /a /a2", "rename /b /a")
	w.stat("/a", api.KindFile, 2, 1, 0)
	w.stat("/a2", api.KindFile, 3, 1, 4)
	w.read(0, "text")
	w.want("rename /a /a2", api.ErrBusy)
	w.ok("close 0", "rename /a /a2")
	w.stat("/a2", api.KindFile, 2, 1, 0)
	// One of two names of a file moves onto a file, and another file onto one of two.
	w.ok("rename /n2 /a2")
	w.stat("/a2", api.KindFile, 9, 2, 0)
	w.ok("rename /e/f /a2")
	w.stat("/c", api.KindFile, 9, 1, 0)
	w.stat("/a2", api.KindFile, 7, 1, 0)
	// Directories.
	w.ok("rename /d /e")
	w.stat("/e", api.KindDir, 4, 1, 16)
	w.stat("/e/x", api.KindDir, 5, 1, 0)
	w.ok("rename /n /e/x")
	w.stat("/e/x", api.KindDir, 8, 1, 0)
	w.list("/", "a2:1:7", "c:1:9", "e:2:4")
	w.ok("rename /e/x /n", "rename /n /e/y", "rename /e /z", "rename /z/y /z/x")
	w.list("/z", "x:2:8")
	// Into the directory that the other one stands in, and onto what stands beside it.
	w.ok("create /z/f", "create /z/g", "rename /z/f /z/g", "rename /c /z/g", "mkdir /z/y", "rename /z/x /z/y")
	w.list("/z", "g:1:9", "y:2:8")
}

// TestRenameErrors: P18.5, the first path, then the second one's parent, the root ahead of both.
func TestRenameErrors(t *testing.T) {
	w := begun(t, 1000, "create /f", "mkdir /d", "create /d/f", "mkdir /n", "create /o", "open /o")
	for _, path := range []string{"/f", "/d", "/n", "/o", "/new", "/none/x", "/f/x"} {
		w.want("rename /none "+path, api.ErrNone)
		w.want("rename /none/y "+path, api.ErrNone)
		w.want("rename /d/none "+path, api.ErrNone)
		w.want("rename /f/y "+path, api.ErrNotDir)
		w.want("rename /none /", api.ErrBusy)
		w.want("rename / "+path, api.ErrBusy)
	}
	for _, old := range []string{"/d", "/n", "/o", "/d/f"} {
		w.want("rename "+old+" /none/x", api.ErrNone)
		w.want("rename "+old+" /none/x/y", api.ErrNone)
		w.want("rename "+old+" /f/x", api.ErrNotDir)
		w.want("rename "+old+" /f/x/y", api.ErrNotDir)
	}
	w.want("rename /f /o/x", api.ErrNotDir)
	w.want("rename /f /d/f/x", api.ErrNotDir)
}

// chain answers the calls that make these directories, one in the other, below dir.
func chain(dir string, names ...string) (lines []string) {
	for _, name := range names {
		dir += "/" + name
		lines = append(lines, "mkdir "+dir)
	}
	return lines
}

func times(name string, n int) []string {
	return strings.Fields(strings.Repeat(name+" ", n))
}

// TestRenameDeep: P18.5, a path below would have more than sixteen names: ErrName, be it a file's or a directory's; with just sixteen it has not.
func TestRenameDeep(t *testing.T) {
	for _, verb := range []string{"create ", "mkdir "} {
		// Below /d there are as many names, below /t one directory in the other.
		for deep := 1; deep <= 15; deep++ {
			w := begun(t, 1000, chain("", append([]string{"d"}, times("x", deep-1)...)...)...)
			w.ok("mkdir /d/beside", "create /d/zz", verb+"/d"+repeat("x", deep-1)+"/end")
			w.ok(chain("", times("t", 15)...)...)
			for n := 1; n <= 15; n++ {
				e := api.OK
				if n+1+deep > 16 {
					e = api.ErrName
				}
				path := repeat("t", n) + "/new"
				if w.want("rename /d "+path, e); e == api.OK {
					w.ok("rename " + path + " /d")
				}
			}
		}
	}
}

// TestRenameLong: P18.5, a path below would have more than MaxPath bytes: ErrName; with just as many it has not.
func TestRenameLong(t *testing.T) {
	for _, inner := range []string{repeat(thirteen, 5), "/abcdef/abcdef/abcdefg"} {
		w := begun(t, 1000, chain("", append([]string{"d"}, strings.Split(inner, "/")[1:]...)...)...)
		w.ok("create /d/0", "mkdir /d/zz", "create /d/zz/a")
		w.ok(chain("", times(thirteen, 12)...)...)
		top := repeat(thirteen, 9)
		for names := 9; names <= 12; names++ {
			for n := 1; n <= 13; n++ {
				path := top + "/" + strings.Repeat("z", n)
				e := api.OK
				if len(path)+len(inner) > 200 || names+1+strings.Count(inner, "/") > 16 {
					e = api.ErrName
				}
				if w.want("rename /d "+path, e); e == api.OK {
					w.ok("rename " + path + " /d")
				}
			}
			top += "/" + thirteen
		}
	}
}

// TestRenameLongOrder: P18.5, that a path below would be none comes behind the walks and what is one path, ahead of all that stands at the other path.
func TestRenameLongOrder(t *testing.T) {
	w := begun(t, 1000, chain("", times("d", 16)...)...)
	w.ok("mkdir /t", "create /t/f", "mkdir /t/n", "mkdir /t/full", "create /t/full/x", "mkdir /t/full/y", "create /t/o", "open /t/o", "create /f")
	// Below /d there would be seventeen names, below /d/d sixteen.
	for _, path := range []string{"/t/new", "/t/f", "/t/n", "/t/full", "/t/o"} {
		w.want("rename /d "+path, api.ErrName)
	}
	for _, path := range []string{"/t/full/new", "/t/full/x", "/t/full/y"} {
		w.want("rename /d "+path, api.ErrName)
		w.want("rename /d/d "+path, api.ErrName)
		w.want("rename /d/d/d "+path, map[string]api.Errno{"/t/full/x": api.ErrNotDir}[path])
		if path != "/t/full/x" {
			w.ok("rename " + path + " /d/d/d")
		}
	}
	w.want("rename /d/d /t/f", api.ErrNotDir)
	w.want("rename /d/d /t/o", api.ErrNotDir)
	w.want("rename /d/d /t/full", api.ErrNotEmpty)
	w.want("rename /d/d /f", api.ErrNotDir)
	w.want("rename /d /f", api.ErrNotDir)
	w.want("rename /d /t", api.ErrNotEmpty)
	// What comes ahead.
	w.want("rename /d /d", api.OK)
	w.want("rename /d /d/x", api.ErrArg)
	w.want("rename /d "+repeat("d", 16), api.ErrArg)
	w.want("rename /d /none/x", api.ErrNone)
	w.want("rename /d /f/x", api.ErrNotDir)
	w.want("rename /d /t/none/x", api.ErrNone)
	w.want("rename /d /t/f/x", api.ErrNotDir)
	w.ok("rename /d/d /t/n", "rename /t/n /d/d", "rename /d/d /t/new", "rename /t/new /d/d")
	// A file has nothing below it, however deep it comes to stand.
	w.ok("rename /f "+repeat("d", 15)+"/f", "rename "+repeat("d", 15)+"/f /f")
	w.want("rename /d /t/new", api.ErrName)
	w.ok("rmdir "+repeat("d", 16), "rename /d /t/new")
}
