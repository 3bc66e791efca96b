package tree_test

import (
	"math"
	"testing"

	"skerry/api"
	"skerry/tree"
)

// greatest and least numbers of an int.
const (
	most  = math.MaxInt
	least = math.MinInt
)

const thirteen = "abcdefghijklm"

// notPaths are texts that are no paths.
var notPaths = []string{
	"", "a", "//", "/a/", "/A", "/.", "/..", "a/", "/a//b", "/a/.", "/a/../b", "/ ", "/\x00", "/a\x00", "/\xff", "/ä", " /a", "/a ", "/a\n",
	"/" + thirteen + "n", repeat("a", 17), repeat(thirteen, 14) + "/bcde", repeat(thirteen, 15), repeat(thirteen, 1000),
}

// withPath are the calls that have one path.
var withPath = []string{"create", "mkdir", "unlink", "rmdir", "stat", "list", "open"}

// TestExamples: the examples of the chapter.
func TestExamples(t *testing.T) {
	w := begun(t, 1000, "create /a", "mkdir /d", "link /a /d/b")
	w.stat("/d/b", api.KindFile, 2, 2, 0)
	w.ok("unlink /a")
	if f := w.want("open /d/b", api.OK).f; f != 0 {
		t.Errorf("Open: %d", f)
	}
	w.want("unlink /d/b", api.ErrBusy)
	w.ok("close 0", "unlink /d/b", "create /c")
	w.stat("/c", api.KindFile, 2, 1, 0)

	w.want("rename /d /d/x", api.ErrArg)
	w.want("rename /d /e", api.OK)
	w.ok("create /a")
	w.want("create /a/b", api.ErrNotDir)
}

// TestNew: P18.1, the most bytes that files may have, and the root alone.
func TestNew(t *testing.T) {
	for _, n := range []int{1, 2, 15, 16, 63, 64, 4095, 4096, 4097, 65536, api.MaxFile - 1, api.MaxFile} {
		x := made(t, n)
		wanted := []api.Node{{Path: "/", Kind: api.KindDir, Inode: 1, Links: 1}}
		if got := x.Dump(); !sameNodes(got, wanted) {
			t.Errorf("New(%d):%s", n, show(got))
		}
		w := &world{t, x, newModel(n)}
		w.stat("/", api.KindDir, 1, 1, 0)
		w.list("/")
		for f := range api.MaxOpen {
			w.call(call{name: "close", f: f}, api.ErrHandle)
		}
		w.ok("create /a", "open /a")
		w.call(call{name: "truncate", n: n}, api.OK)
		w.call(call{name: "truncate", n: n + 1}, api.ErrLarge)
		w.call(call{name: "write", at: n - 1, data: "x"}, api.OK)
		w.call(call{name: "write", at: n, data: "x"}, api.ErrLarge)
	}
	for _, n := range []int{0, -1, -4096, least, least + 1, api.MaxFile + 1, 2 * api.MaxFile, 1 << 32, 1<<32 + 1, most - 1, most} {
		if x, e := tree.New(n); x != nil || e != api.ErrArg {
			t.Errorf("New(%d): %v %d", n, x, e)
		}
	}
}

// wantNone holds that there is no tree, whatever a call is given.
func wantNone(t *testing.T, x *tree.Tree) {
	t.Helper()
	wanted := answer{e: api.ErrArg}
	for _, path := range append([]string{"/", "/a", "/a/b"}, notPaths...) {
		for _, name := range withPath {
			if got := do(x, call{name: name, path: path}); !got.same(wanted) {
				t.Errorf("%s %q: %v", name, path, got)
			}
		}
		for _, name := range []string{"link", "rename"} {
			for _, old := range []string{"/", "/a", "/b", path, "", "//"} {
				for _, c := range []call{{name: name, old: old, path: path}, {name: name, old: path, path: old}} {
					if got := do(x, c); !got.same(wanted) {
						t.Errorf("%v: %v", c, got)
					}
				}
			}
		}
	}
	for _, f := range []int{0, 1, 15, 16, -1, most, least} {
		for _, n := range []int{0, 1, 5000, -1, most, least} {
			for _, c := range []call{{name: "close", f: f}, {name: "read", f: f, at: n}, {name: "read", f: f, n: n}, {name: "write", f: f, at: n, data: "x"}, {name: "write", f: f, at: n}, {name: "truncate", f: f, n: n}} {
				if got := do(x, c); !got.same(wanted) {
					t.Errorf("%v: %v", c, got)
				}
			}
		}
	}
	if list := x.Dump(); len(list) != 0 {
		t.Errorf("Dump:%s", show(list))
	}
	for _, p := range []api.Plan{{}, planned(t, 64, 100, 10, 8), {Block: 64}} {
		if a, e := x.Need(p); a != 0 || e != api.ErrArg {
			t.Errorf("Need(%v): %v %d", p, a, e)
		}
	}
}

// TestNoTree: a nil Tree answers ErrArg to all calls, ahead of all else, and Dump nothing; one that New has not made does so too.
func TestNoTree(t *testing.T) {
	wantNone(t, nil)
	wantNone(t, new(tree.Tree))
}

// TestNoPath: a text that is no path is refused by all calls, ahead of all that is amiss with a path beside it, and with what stands there.
func TestNoPath(t *testing.T) {
	w := begun(t, 1000, "create /a", "mkdir /d", "create /d/f", "open /a")
	for _, bad := range notPaths {
		for _, name := range withPath {
			w.call(call{name: name, path: bad}, api.ErrName)
		}
		for _, name := range []string{"link", "rename"} {
			for _, path := range []string{"/", "/a", "/d", "/d/f", "/d/new", "/new", "/none/new", "/a/new", bad, "", "//"} {
				w.call(call{name: name, old: bad, path: path}, api.ErrName)
				w.call(call{name: name, old: path, path: bad}, api.ErrName)
			}
		}
	}
	// What is refused has no part that a walk would have met.
	for _, bad := range []string{"/d/", "/d//f", "/d/.", "/d/f/..", "//a", "/a/A", "/none/A", "/a/b/", "/none//"} {
		for _, name := range withPath {
			w.call(call{name: name, path: bad}, api.ErrName)
		}
	}
}

// TestAllTexts: all short texts of a few bytes as paths, in all calls: they are paths or not, and there or not.
func TestAllTexts(t *testing.T) {
	w := begun(t, 1000, "mkdir /a", "create /a/a", "create /aa")
	texts := []string{""}
	for i := 0; len(texts[i]) < 5; i++ {
		for _, c := range "/a.A\x00" {
			texts = append(texts, texts[i]+string(c))
		}
	}
	for _, text := range texts {
		for _, name := range []string{"stat", "list", "create", "mkdir", "open", "close", "unlink", "rmdir"} {
			w.both(call{name: name, path: text})
		}
		for _, name := range []string{"link", "rename"} {
			w.both(call{name: name, old: text, path: "/b"})
			w.both(call{name: name, old: "/b", path: text})
			w.both(call{name: name, old: "/a/a", path: text})
			w.both(call{name: name, old: text, path: "/a/a"})
			w.both(call{name: name, old: text, path: text})
		}
		w.both(call{name: "unlink", path: "/b"})
		w.both(call{name: "unlink", path: text})
		w.holds(text)
	}
}

// TestLongPaths: paths of just the bytes and the names that they may have are walked by all calls.
func TestLongPaths(t *testing.T) {
	for _, dir := range []string{repeat("a", 15), repeat("ab", 15), repeat(thirteen, 13) + "/abcdefghij", repeat(thirteen[:12], 14)} {
		w := begun(t, 1000)
		for end := 1; end < len(dir); end++ {
			if dir[end] == '/' {
				w.ok("mkdir " + dir[:end])
			}
		}
		w.ok("mkdir " + dir)
		last := dir + "/"
		for len(last) < api.MaxPath && len(last) < len(dir)+1+api.MaxName {
			last += "z"
		}
		w.ok("create "+last, "open "+last, "stat "+last, "close 0", "link "+last+" /x", "rename "+last+" /y", "rename /y "+last, "rename /x /y", "link /y /x")
		w.ok("list "+dir, "unlink "+last, "mkdir "+last, "stat "+last, "list "+last, "rename "+last+" /z", "rename /z "+last, "rmdir "+last)
		if len(last) == api.MaxPath || dir == repeat("a", 15) {
			for _, name := range withPath {
				w.call(call{name: name, path: last + "/z"}, api.ErrName)
			}
			w.call(call{name: "rename", old: "/x", path: last + "/z"}, api.ErrName)
		}
	}
}

// TestRoot: the root in every call.
func TestRoot(t *testing.T) {
	w := begun(t, 1000, "create /a", "mkdir /d")
	for range 2 {
		w.want("create /", api.ErrExists)
		w.want("mkdir /", api.ErrExists)
		w.want("unlink /", api.ErrIsDir)
		w.want("rmdir /", api.ErrBusy)
		w.want("open /", api.ErrIsDir)
		w.want("link / /", api.ErrIsDir)
		w.want("link / /new", api.ErrIsDir)
		w.want("link / /a", api.ErrIsDir)
		w.want("link / /none/new", api.ErrIsDir)
		w.want("link /a /", api.ErrExists)
		w.want("link /d /", api.ErrIsDir)
		w.want("link /none /", api.ErrNone)
		for _, path := range []string{"/", "/a", "/d", "/d/x", "/new", "/none/new", "/a/new"} {
			w.want("rename / "+path, api.ErrBusy)
			w.want("rename "+path+" /", api.ErrBusy)
		}
	}
	w.stat("/", api.KindDir, 1, 1, 32)
	w.list("/", "a:1:2", "d:2:3")
	w.ok("unlink /a", "rmdir /d")
	w.want("rmdir /", api.ErrBusy)
	w.want("unlink /", api.ErrIsDir)
	w.stat("/", api.KindDir, 1, 1, 0)
}

// TestWalks: a name on the way that is not there, and a file on the way, in all calls; the first one tells.
func TestWalks(t *testing.T) {
	w := begun(t, 1000, "create /f", "mkdir /d", "create /d/f", "mkdir /d/e", "create /d/e/f")
	for path, e := range map[string]api.Errno{
		"/x/y": api.ErrNone, "/x/y/z": api.ErrNone, "/d/x/y": api.ErrNone, "/d/e/x/y": api.ErrNone, "/e/f": api.ErrNone, "/d/d/f": api.ErrNone, "/x/f": api.ErrNone, "/fx/y": api.ErrNone, "/d/e/ff/x": api.ErrNone,
		"/f/x": api.ErrNotDir, "/f/f": api.ErrNotDir, "/f/d": api.ErrNotDir, "/f/x/y": api.ErrNotDir, "/f/x/y/z": api.ErrNotDir, "/d/f/x": api.ErrNotDir, "/d/f/x/y": api.ErrNotDir, "/d/e/f/x": api.ErrNotDir, "/d/e/f/f/f/f": api.ErrNotDir,
	} {
		for _, name := range withPath {
			w.want(name+" "+path, e)
		}
		for _, name := range []string{"link ", "rename "} {
			w.want(name+path+" /new", e)
			w.want(name+path+" /f", e)
			w.want(name+path+" /d/e", e)
			w.want(name+path+" "+path, e)
			w.want(name+"/f "+path, map[bool]api.Errno{true: api.ErrArg, false: e}[name == "rename " && below(path, "/f")])
		}
	}
	// The last one is not there.
	for _, path := range []string{"/x", "/ff", "/d/x", "/d/e/x", "/d/e/ff"} {
		for _, name := range []string{"unlink", "rmdir", "stat", "list", "open"} {
			w.want(name+" "+path, api.ErrNone)
		}
		for _, name := range []string{"link ", "rename "} {
			w.want(name+path+" /new", api.ErrNone)
			w.want(name+path+" /f", api.ErrNone)
			w.want(name+path+" /f/x", api.ErrNone)
			w.want(name+path+" "+path, api.ErrNone)
			w.want(name+path+" "+path+"/y", api.ErrNone)
			w.want(name+path+" /none/y", api.ErrNone)
		}
	}
	w.want("rename /none /", api.ErrBusy)
}
