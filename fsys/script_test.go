package fsys_test

import (
	"fmt"
	"math"
	"strings"
	"testing"

	"skerry/api"
	"skerry/fsys"
)

const thirteen = "abcdefghijklm"

var notPaths = []string{"", "a", "//", "/a/", "/A", "/.", "/a/..", "/" + thirteen + "n", strings.Repeat("/a", 17)}

// anyPath answers a path, or now and then none, that may be there or not.
func anyPath(x *dice, there []string, names []string) string {
	switch x.below(30) {
	case 0:
		return "/"
	case 1:
		return pick(x, notPaths)
	case 2, 3, 4, 5, 6, 7, 8, 9, 10, 11:
		return pick(x, there)
	case 12, 13, 14, 15, 16, 17, 18:
		return strings.TrimSuffix(pick(x, there), "/") + "/" + pick(x, names)
	}
	path := ""
	for range 1 + x.below(3) {
		path += "/" + pick(x, names)
	}
	return path
}

// near answers a number around one of those at which answers change.
func near(x *dice, list ...int) int {
	return pick(x, list) + x.below(3) - 1
}

// theme says what kinds of calls a script has, each as often as it is named.
type theme struct {
	kinds []string
	// How many bytes are written at one time, and where at most, in blocks.
	bytes []int
	reach int
}

func kinds(text string) []string {
	return strings.Fields(text)
}

// themes answers scripts of all kinds: of everything, of names, of bytes near the beginning and anywhere.
func themes() []theme {
	return []theme{
		{kinds("create create create mkdir mkdir link rename rename rename unlink unlink rmdir stat list open open open close read read write write write write write truncate truncate fsync fdatasync sync"), []int{0, 1, 5, 63, 64, 65, 200, 700}, 14},
		{kinds("create create create create mkdir mkdir mkdir link link link rename rename rename rename rename unlink unlink unlink rmdir rmdir stat list open close"), []int{1}, 1},
		{kinds("create open open write write write write write write write truncate truncate read unlink close"), []int{1, 64, 512, 1000, 4096}, 60},
		{kinds("create open write write write truncate truncate read fdatasync fsync unlink close rename"), []int{1, 64, 65, 4095, 4096}, 4000},
		{kinds("create open open open open open open open link unlink rename close read write"), []int{1, 64}, 3},
	}
}

// anyCall answers a call of a theme.
func (y theme) anyCall(x *dice, w *world, names []string) call {
	c := call{name: pick(x, y.kinds), f: x.below(4)}
	switch x.below(30) {
	case 0:
		c.f = near(x, 0, 16)
	case 1:
		c.f = x.below(16)
	}
	block := w.p.Block
	switch c.name {
	case "create", "mkdir", "link", "rename", "unlink", "rmdir", "stat", "list", "open":
		var there []string
		for _, n := range w.m.Dump() {
			there = append(there, n.Path)
		}
		c.path = anyPath(x, there, names)
		if c.name == "link" || c.name == "rename" {
			c.old = anyPath(x, there, names)
		}
	case "read":
		c.at, c.n = near(x, 0, 1, 5, block, 8*block, x.below(y.reach*block+2)), near(x, 0, 3, 70, 4096)
		if x.below(20) == 0 {
			c.at, c.n = pick(x, []int{0, 5, math.MaxInt, math.MinInt, -1}), pick(x, []int{0, 5, math.MaxInt, math.MinInt, -1})
		}
	case "write":
		c.at = near(x, 0, 1, block, 8*block, x.below(y.reach)*block, x.below(y.reach*block+2))
		c.data = text(x.below(200), pick(x, y.bytes))
		if x.below(20) == 0 {
			c.at = pick(x, []int{math.MaxInt, math.MaxInt - 1, math.MinInt, -1, most(w.p) - len(c.data), most(w.p) - len(c.data) + 1})
		}
	case "truncate":
		c.n = near(x, 0, 1, block, 8*block, x.below(y.reach)*block, x.below(y.reach*block+2))
		if x.below(20) == 0 {
			c.n = pick(x, []int{math.MaxInt, math.MinInt, -1, most(w.p), most(w.p) + 1})
		}
	}
	return c
}

// text answers n bytes none of which is 0, which tell their place and which text they are of.
func text(which, n int) string {
	b := make([]byte, n)
	for i := range b {
		b[i] = byte(1 + (i*7+i/64*3+which*31)%255)
	}
	return string(b)
}

// asked is which calls of scripts have answered which errors.
type asked map[string]int

func (a asked) want(t *testing.T, name string, errors ...api.Errno) {
	t.Helper()
	for _, e := range errors {
		if a[fmt.Sprint(name, e)] == 0 {
			t.Errorf("no script has a %s that answers %d", name, e)
		}
	}
}

// grounds answers what scripts play on: plans whose devices are soon full, and ones that are not, all with logs that no call is too great for.
func grounds(t *testing.T) [][4]int {
	t.Helper()
	return [][4]int{{64, 110, 8, 40}, {64, 200, 12, 40}, {64, 600, 40, 41}, {64, 1700, 60, 60}, {64, 4096, 1024, 40}, {128, 160, 10, 40}, {256, 140, 20, 40}, {512, 300, 12, 44}, {1024, 200, 40, 80}, {4096, 100, 20, 40}, {4096, 256, 6, 100}}
}

// TestScripts: P19.3, scripts of all kinds, on caches of all sizes: each call answers what the tree answers, or has no space where that may be; behind Sync the device is that tree, and P19.6, Free is what it leaves.
func TestScripts(t *testing.T) {
	told := asked{}
	for seed := range 220 {
		x := dice(seed)
		ground := grounds(t)[seed%len(grounds(t))]
		y := pick(&x, themes())
		p := planned(t, ground[0], ground[1], ground[2], ground[3])
		w := begun(t, p, pick(&x, []int{1, 1, 2, 3, 5, 8, 20, 100, 512}), x.picks(x.below(200)))
		names := []string{"a", "b", "c", "a-", "d", "e"}[:1+x.below(6)]
		for range 250 {
			c := y.anyCall(&x, w, names)
			a := w.both(c)
			told[fmt.Sprint(c.name, a.e)]++
			if x.below(60) == 0 {
				w.holds(c)
			}
			if x.below(60) == 0 {
				w.synced(c)
			}
			if t.Failed() {
				t.Fatalf("seed %d: %v", seed, c)
			}
		}
		w.holds("the script")
		w.synced("the script")
		w.remount(1+x.below(30), x.picks(9)...)
		w.holds("another Mount")
		if t.Failed() {
			t.Fatalf("seed %d", seed)
		}
	}
	told.want(t, "create", api.OK, api.ErrName, api.ErrExists, api.ErrNone, api.ErrNotDir, api.ErrNoSpace)
	told.want(t, "mkdir", api.OK, api.ErrName, api.ErrExists, api.ErrNone, api.ErrNotDir, api.ErrNoSpace)
	told.want(t, "link", api.OK, api.ErrName, api.ErrExists, api.ErrNone, api.ErrNotDir, api.ErrIsDir)
	told.want(t, "unlink", api.OK, api.ErrName, api.ErrNone, api.ErrNotDir, api.ErrIsDir, api.ErrBusy)
	told.want(t, "rmdir", api.OK, api.ErrName, api.ErrNone, api.ErrNotDir, api.ErrNotEmpty, api.ErrBusy)
	told.want(t, "rename", api.OK, api.ErrName, api.ErrBusy, api.ErrNone, api.ErrNotDir, api.ErrArg, api.ErrIsDir, api.ErrNotEmpty)
	told.want(t, "stat", api.OK, api.ErrName, api.ErrNone, api.ErrNotDir)
	told.want(t, "list", api.OK, api.ErrName, api.ErrNone, api.ErrNotDir)
	told.want(t, "open", api.OK, api.ErrName, api.ErrNone, api.ErrNotDir, api.ErrIsDir, api.ErrMany)
	told.want(t, "close", api.OK, api.ErrHandle)
	told.want(t, "read", api.OK, api.ErrHandle, api.ErrArg, api.ErrLarge)
	told.want(t, "write", api.OK, api.ErrHandle, api.ErrArg, api.ErrLarge, api.ErrNoSpace)
	told.want(t, "truncate", api.OK, api.ErrHandle, api.ErrArg, api.ErrLarge)
	told.want(t, "fsync", api.OK, api.ErrHandle)
	told.want(t, "fdatasync", api.OK, api.ErrHandle)
	told.want(t, "sync", api.OK)
}

// TestCachesAlike: P19.3 and R5, one script answers the same whatever the cache's capacity and picks.
func TestCachesAlike(t *testing.T) {
	for seed := range 12 {
		x := dice(500 + seed)
		p := planned(t, 64, 300, 20, 40)
		y := pick(&x, themes())
		w := begun(t, p, 512, nil)
		others := []*fsys.FS{mount(t, formatted(t, p), 1), mount(t, formatted(t, p), 2, 1, 0, 1, 1, 0), mount(t, formatted(t, p), 7, x.picks(400)...), mount(t, formatted(t, p), 40, -1, 1<<40)}
		for range 200 {
			c := y.anyCall(&x, w, []string{"a", "b", "c"})
			a := w.both(c)
			free, _ := w.s.Free()
			for i, s := range others {
				if got := do(s, c); !got.same(a) {
					t.Fatalf("seed %d, cache %d, %v: %v, should be %v", seed, i, c, got, a)
				}
				if got, e := s.Free(); got != free || e != api.OK {
					t.Fatalf("seed %d, cache %d, behind %v: Free: %v %d, should be %v", seed, i, c, got, e, free)
				}
			}
		}
	}
}

// TestShortScripts: P19.3, all scripts of two calls, and many of three, on two names and what is below them, behind several trees.
func TestShortScripts(t *testing.T) {
	var calls []call
	paths := []string{"/a", "/b", "/a/b"}
	for _, path := range paths {
		for _, name := range []string{"create", "mkdir", "unlink", "rmdir", "open"} {
			calls = append(calls, call{name: name, path: path})
		}
		for _, old := range paths {
			calls = append(calls, call{name: "link", old: old, path: path}, call{name: "rename", old: old, path: path})
		}
	}
	calls = append(calls, parse("close 0"), parse("write 0 1 x"), parse("truncate 0 0"), parse("fsync 0"), parse("sync"))
	p := planned(t, 64, 100, 8, 40)
	for at, start := range [][]string{
		{}, {"create /a", "create /b", "open /b"}, {"mkdir /a", "create /a/b", "link /a/b /b", "open /b"}, {"mkdir /a", "mkdir /b"}, {"mkdir /a", "mkdir /a/b", "create /b"},
	} {
		for i := at; i < len(calls)*len(calls)*len(calls); i += 11 {
			w := begun(t, p, 1+i%5, nil, start...)
			k := i
			for range 3 {
				w.both(calls[k%len(calls)])
				k /= len(calls)
			}
			w.synced(i)
		}
	}
}

// TestEveryCallOnEach: P19.3, each call with each path, and each two, on one tree with something of all kinds.
func TestEveryCallOnEach(t *testing.T) {
	lines := []string{
		"mkdir /d", "create /d/f", "mkdir /d/e", "create /d/e/g", "mkdir /n", "create /f", "link /f /d/h", "link /f /h", "create /o", "open /o", "create /p", "link /p /d/p", "open /p", "open /h",
	}
	p := planned(t, 64, 200, 16, 40)
	start := begun(t, p, 9, nil, lines...)
	var paths []string
	for _, n := range start.m.Dump() {
		paths = append(paths, n.Path)
	}
	paths = append(paths, "/none", "/d/none", "/none/x", "/f/x", "/d/e/none", "/n/none", "/o/x", "", "//", "/A", strings.Repeat("/a", 17))
	var calls []call
	for _, path := range paths {
		for _, name := range []string{"create", "mkdir", "unlink", "rmdir", "stat", "list", "open"} {
			calls = append(calls, call{name: name, path: path})
		}
		for _, old := range paths {
			calls = append(calls, call{name: "link", old: old, path: path}, call{name: "rename", old: old, path: path})
		}
	}
	for i, c := range calls {
		w := begun(t, p, 1+i%9, nil, lines...)
		w.both(c)
		w.holds(c)
		// What comes behind it does not find anything amiss: numbers, links, handles.
		for _, line := range []string{"create /last", "open /last", "close 0", "link /f /more", "rename /d /dd", "unlink /o", "mkdir /dd/last"} {
			w.both(parse(line))
		}
		w.synced(c)
	}
}

// TestDeep: P19.3, a Rename below which paths would come to just sixteen names and 200 bytes, and to one more.
func TestDeep(t *testing.T) {
	p := planned(t, 128, 400, 60, 40)
	w := begun(t, p, 4, []int{1, 2, 3})
	path := ""
	for range 15 {
		path += "/d"
		w.ok("mkdir " + path)
	}
	w.ok("create "+path+"/f", "mkdir /x", "mkdir /y")
	w.want("rename /d /x/d", api.ErrName)
	w.ok("unlink "+path+"/f", "rename /d /x/d", "create /x"+path[:len(path)-2]+"/f")
	w.want("rename /x /y/x", api.ErrName)
	w.holds("sixteen names")
	// 13 times 14 bytes, and 18 for the rest: 200.
	w = begun(t, p, 4, nil)
	long := ""
	for range 12 {
		long += "/" + thirteen
		w.ok("mkdir " + long)
	}
	w.ok("create "+long+"/"+thirteen, "create "+long+"/z", "mkdir /s", "mkdir /s/abcdefghijk")
	w.ok("rename /"+thirteen+" /s/abcdefghijk/"+thirteen, "rename /s /abcd")
	if n := len("/abcd/abcdefghijk" + long + "/" + thirteen); n != 199 {
		t.Errorf("the longest path has %d bytes", n)
	}
	w.ok("rename /abcd /abcde")
	w.want("rename /abcde /abcdef", api.ErrName)
	w.holds("200 bytes")
	w.synced("200 bytes")
}
