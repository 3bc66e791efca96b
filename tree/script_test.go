package tree_test

import (
	"fmt"
	"maps"
	"slices"
	"strings"
	"testing"

	"skerry/api"
)

// anyPath answers a path, or now and then none, that may be there or not.
func anyPath(x *dice, m *model, names []string) string {
	switch x.below(30) {
	case 0:
		return "/"
	case 1:
		return pick(x, notPaths)
	case 2, 3, 4, 5, 6, 7, 8, 9:
		return pick(x, slices.Sorted(maps.Keys(m.paths)))
	case 10, 11, 12, 13, 14, 15:
		return strings.TrimSuffix(pick(x, slices.Sorted(maps.Keys(m.paths))), "/") + "/" + pick(x, names)
	}
	path := ""
	for range 1 + x.below(3) {
		path += "/" + pick(x, names)
	}
	return path
}

// near answers a number around one of those at which answers change.
func near(x *dice, list ...int) int {
	return pick(x, list) + x.below(3) - 1
}

// anyCall answers a call of any kind.
func anyCall(x *dice, m *model, names []string) call {
	c := call{f: x.below(4)}
	switch x.below(12) {
	case 0:
		c.f = near(x, 0, 16)
	case 1:
		c.f = x.below(16)
	}
	switch n := x.below(40); {
	case n < 24:
		c.name = []string{"create", "create", "create", "mkdir", "mkdir", "link", "link", "rename", "rename", "rename", "rename", "rename", "unlink", "unlink", "rmdir", "stat", "stat", "list", "open", "open", "open", "create", "rename", "unlink"}[n]
		c.path = anyPath(x, m, names)
		if c.name == "link" || c.name == "rename" {
			c.old = anyPath(x, m, names)
		}
	case n < 26:
		c.name = "close"
	case n < 29:
		c.name, c.at, c.n = "read", near(x, 0, 1, 5, 64, m.most), near(x, 0, 3, 70, 4096)
		if x.below(10) == 0 {
			c.at, c.n = pick(x, []int{0, 5, most, least, -1}), pick(x, []int{0, 5, most, least, -1})
		}
	case n < 36:
		c.name, c.at = "write", near(x, 0, 1, 5, 64, m.most/2, m.most)
		c.data = strings.Repeat(string(rune('a'+x.below(26))), pick(x, []int{0, 1, 2, 5, 63, 64, 65, m.most / 2}))
		if x.below(10) == 0 {
			c.at = pick(x, []int{most, most - 1, least, -1, m.most - len(c.data), m.most - len(c.data) + 1})
		}
	default:
		c.name, c.n = "truncate", near(x, 0, 5, 64, m.most/2, m.most)
		if x.below(20) == 0 {
			c.n = pick(x, []int{most, least, -1})
		}
	}
	return c
}

// asked is which calls of scripts have answered which errors.
type asked map[string]int

func (a asked) want(t *testing.T, name string, errors ...api.Errno) {
	t.Helper()
	for _, e := range errors {
		if a[fmt.Sprint(name, e)] == 0 {
			t.Errorf("no script has a %s that answers %d", name, e)
		}
	}
}

// TestScripts: P18.1 to P18.9, long scripts on few names: what each call answers, and Dump and Need behind it, is what the chapter says.
func TestScripts(t *testing.T) {
	told := asked{}
	p := planned(t, 64, 1000, 100, 40)
	for seed := range 120 {
		x := dice(seed)
		w := begun(t, []int{1, 10, 100, 200, 1000}[x.below(5)])
		names := []string{"a", "b", "c", "a-", "d", "e"}[:1+x.below(6)]
		for range 500 {
			c := anyCall(&x, w.m, names)
			if c.name == "close" && seed%3 == 0 && x.below(8) > 0 {
				// So that now and then all handles are open.
				c = call{name: "open", path: anyPath(&x, w.m, names)}
			}
			before := w.x.Dump()
			a := w.both(c)
			told[fmt.Sprint(c.name, a.e)]++
			if a.e != api.OK && !sameNodes(before, w.x.Dump()) {
				t.Errorf("%v has changed something", c)
			}
			w.holds(c)
			wanted, e := w.m.need(p)
			if n, f := w.x.Need(p); n != wanted || f != e {
				t.Errorf("behind %v: Need: %v %d, should be %v %d", c, n, f, wanted, e)
			}
			if t.Failed() {
				t.Fatal("seed ", seed)
			}
		}
	}
	told.want(t, "create", api.OK, api.ErrName, api.ErrExists, api.ErrNone, api.ErrNotDir)
	told.want(t, "mkdir", api.OK, api.ErrName, api.ErrExists, api.ErrNone, api.ErrNotDir)
	told.want(t, "link", api.OK, api.ErrName, api.ErrExists, api.ErrNone, api.ErrNotDir, api.ErrIsDir)
	told.want(t, "unlink", api.OK, api.ErrName, api.ErrNone, api.ErrNotDir, api.ErrIsDir, api.ErrBusy)
	told.want(t, "rmdir", api.OK, api.ErrName, api.ErrNone, api.ErrNotDir, api.ErrNotEmpty, api.ErrBusy)
	told.want(t, "rename", api.OK, api.ErrName, api.ErrBusy, api.ErrNone, api.ErrNotDir, api.ErrArg, api.ErrIsDir, api.ErrNotEmpty)
	told.want(t, "stat", api.OK, api.ErrName, api.ErrNone, api.ErrNotDir)
	told.want(t, "list", api.OK, api.ErrName, api.ErrNone, api.ErrNotDir)
	told.want(t, "open", api.OK, api.ErrName, api.ErrNone, api.ErrNotDir, api.ErrIsDir, api.ErrMany)
	told.want(t, "close", api.OK, api.ErrHandle)
	told.want(t, "read", api.OK, api.ErrHandle, api.ErrArg, api.ErrLarge)
	told.want(t, "write", api.OK, api.ErrHandle, api.ErrArg, api.ErrLarge)
	told.want(t, "truncate", api.OK, api.ErrHandle, api.ErrArg, api.ErrLarge)
}

// TestDeepScripts: P18.5 and the walks, scripts whose directories stand deep, of names short and long: paths below that would be none are met.
func TestDeepScripts(t *testing.T) {
	for seed := range 24 {
		x := dice(1000 + seed)
		names := []string{"a", "b"}
		if seed%2 == 1 {
			names = []string{thirteen, thirteen[:12], "a"}
		}
		w := begun(t, 100)
		none := 0
		for range 500 {
			paths := slices.Sorted(maps.Keys(w.m.paths))
			slices.SortFunc(paths, func(a, b string) int { return strings.Count(b, "/") - strings.Count(a, "/") })
			// Deep ones are taken more often.
			path := paths[min(x.below(len(paths)), x.below(len(paths)))]
			c := call{name: pick(&x, []string{"mkdir", "mkdir", "mkdir", "mkdir", "mkdir", "create", "rename", "rename", "rename", "rename", "rmdir", "unlink"}), path: path}
			switch c.name {
			case "mkdir", "create":
				c.path = strings.TrimSuffix(path, "/") + "/" + pick(&x, names)
			case "rename":
				c.old, c.path = pick(&x, paths), path
				if x.below(3) > 0 {
					c.path = strings.TrimSuffix(path, "/") + "/" + pick(&x, names)
				}
			}
			if a := w.both(c); a.e == api.ErrName && isPath(c.old) && isPath(c.path) {
				none++
			}
			w.holds(c)
		}
		if none == 0 {
			t.Errorf("seed %d: no path below would be none", seed)
		}
	}
}

// TestShortScripts: P18.2 to P18.7, all scripts of three calls on two names and what is below them, behind several trees.
func TestShortScripts(t *testing.T) {
	var calls []call
	paths := []string{"/a", "/b", "/a/b"}
	for _, path := range paths {
		for _, name := range []string{"create", "mkdir", "unlink", "rmdir", "open"} {
			calls = append(calls, call{name: name, path: path})
		}
		for _, old := range paths {
			calls = append(calls, call{name: "link", old: old, path: path}, call{name: "rename", old: old, path: path})
		}
	}
	calls = append(calls, parse("close 0"), parse("write 0 1 x"), parse("truncate 0 0"))
	for _, start := range [][]string{
		{}, {"create /a", "create /b", "open /b"}, {"mkdir /a", "create /a/b", "link /a/b /b", "open /b"}, {"mkdir /a", "mkdir /b"}, {"mkdir /a", "mkdir /a/b", "create /b"},
	} {
		for i := range len(calls) * len(calls) * len(calls) {
			w := &world{t, made(t, 10), newModel(10)}
			for _, line := range start {
				w.both(parse(line))
			}
			k := i
			for range 3 {
				w.both(calls[k%len(calls)])
				k /= len(calls)
			}
			w.holds(i)
		}
	}
}

// TestEveryCallOnEach: P18.2 to P18.7, each call with each path, and each two, on one tree with something of all kinds.
func TestEveryCallOnEach(t *testing.T) {
	lines := []string{
		"mkdir /d", "create /d/f", "mkdir /d/e", "create /d/e/g", "mkdir /n", "create /f", "link /f /d/h", "link /f /h", "create /o", "open /o", "create /p", "link /p /d/p", "open /p", "open /h",
	}
	start := begun(t, 100, lines...)
	paths := append(slices.Sorted(maps.Keys(start.m.paths)), "/none", "/d/none", "/none/x", "/f/x", "/d/e/none", "/n/none", "/o/x", "", "//", "/A", repeat("a", 17))
	var calls []call
	for _, path := range paths {
		for _, name := range withPath {
			calls = append(calls, call{name: name, path: path})
		}
		for _, old := range paths {
			calls = append(calls, call{name: "link", old: old, path: path}, call{name: "rename", old: old, path: path})
		}
	}
	for _, c := range calls {
		w := &world{t, made(t, 100), newModel(100)}
		for _, line := range lines {
			w.both(parse(line))
		}
		before := w.x.Dump()
		if a := w.both(c); a.e != api.OK && !sameNodes(w.x.Dump(), before) {
			t.Errorf("%v has changed something", c)
		}
		w.holds(c)
		// What comes behind it does not find anything amiss: numbers, links, handles.
		for _, line := range []string{"create /last", "open /last", "close 0", "link /f /more", "rename /d /dd", "unlink /o", "mkdir /dd/last"} {
			w.both(parse(line))
		}
		w.holds(c)
	}
}
