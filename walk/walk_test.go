package walk_test

import (
	"slices"
	"strings"
	"testing"

	"skerry/api"
	"skerry/walk"
)

// thirteen is a name of the greatest length.
const thirteen = "abcdefghijklm"

// repeat answers a path of n times the same name.
func repeat(name string, n int) string {
	return strings.Repeat("/"+name, n)
}

// longPath answers a path of n bytes, from 184 to 210: thirteen names of 13 bytes, and one or two behind them.
func longPath(n int) string {
	path := repeat(thirteen, 13)
	rest := n - len(path)
	if rest > 14 {
		path += "/" + thirteen[:rest/2-1]
		rest -= rest / 2
	}
	return path + "/" + thirteen[:rest-1]
}

// good are paths, with their names written out.
var good = []struct {
	path  string
	names []string
}{
	{"/", nil},
	{"/a", []string{"a"}},
	{"/z", []string{"z"}},
	{"/0", []string{"0"}},
	{"/9", []string{"9"}},
	{"/-", []string{"-"}},
	{"/_", []string{"_"}},
	{"/...", []string{"..."}},
	{"/.a", []string{".a"}},
	{"/..a", []string{"..a"}},
	{"/a.", []string{"a."}},
	{"/a..", []string{"a.."}},
	{"/.-/-./_", []string{".-", "-.", "_"}},
	{"/a/b.c", []string{"a", "b.c"}},
	{"/a/a/a", []string{"a", "a", "a"}},
	{"/abcdefghijkl", []string{"abcdefghijkl"}},
	{"/abcdefghijklm", []string{"abcdefghijklm"}},
	{"/nopqrstuvwxyz/0123456789._-", []string{"nopqrstuvwxyz", "0123456789._-"}},
	{"/a/b/c/d/e/f/g/h/i/j/k/l/m/n/o", strings.Split("abcdefghijklmno", "")},
	{"/a/b/c/d/e/f/g/h/i/j/k/l/m/n/o/p", strings.Split("abcdefghijklmnop", "")},
	{repeat("abcdefghijk", 16), slices.Repeat([]string{"abcdefghijk"}, 16)},                                    // 192 bytes
	{repeat(thirteen, 14), slices.Repeat([]string{thirteen}, 14)},                                              // 196
	{repeat(thirteen, 14) + "/b", append(slices.Repeat([]string{thirteen}, 14), "b")},                          // 198
	{repeat(thirteen, 14) + "/bc", append(slices.Repeat([]string{thirteen}, 14), "bc")},                        // 199
	{repeat(thirteen, 14) + "/bcd", append(slices.Repeat([]string{thirteen}, 14), "bcd")},                      // 200
	{repeat(thirteen, 14) + "/b/c", append(slices.Repeat([]string{thirteen}, 14), "b", "c")},                   // 200, sixteen names
	{repeat("abcdefghijk", 14) + repeat("z", 2), append(slices.Repeat([]string{"abcdefghijk"}, 14), "z", "z")}, // 172, sixteen names
}

// bad are texts that are no paths.
var bad = []string{
	"", "a", "ab", "a/", "a/b", "A", ".", "..", "./a", "../a", " ", "\x00", " /a", "a/b/c", "-", "\\a", "\\",
	"//", "///", "////", "//a", "/a/", "/a//", "/a//b", "/a/b/", "//a/b", "/a///b", "/a/b//", "//" + thirteen, "/./", "/../",
	"/.", "/..", "/a/.", "/a/..", "/./a", "/../a", "/a/./b", "/a/../b", "/../..", "/./.",
	"/A", "/Z", "/aB", "/Ba", "/a/B", "/a/B/c", "/B/c", "/ ", "/a ", "/ a", "/a b", "/a+", "/a,b", "/a:b", "/a@", "/a[", "/a`", "/a{", "/a~", "/*", "/a\n", "/\na", "/a\\b", "/a^",
	"/\x00", "/a\x00", "/\x00a", "/a\x00/b", "/a/\x00", "\x00/a", "/a\x00b", "/\x01", "/\x1f", "/\x7f",
	"/\x80", "/\xff", "/a\x80", "/\xe1", "/a\xe1b", "/ä", "/a/ä", "/ä/a", "/ａ", "/０", "/a／b", "／a", "/\xef\xbc\x8f", "/\xaf", "/\xad", "/\xae", "\xaf", "\xafa",
	"/abcdefghijklmn", "/a/abcdefghijklmn", "/abcdefghijklmn/a", "/a/abcdefghijklmn/a", "/" + strings.Repeat("a", 199), "/" + strings.Repeat("a", 200), "/" + strings.Repeat("a", 100000),
	repeat("a", 17), repeat("a", 18), repeat("a", 32), repeat("a", 100), repeat("a", 101), repeat("a", 100000), repeat("a", 16) + "/", "/" + repeat("a", 16), repeat("a", 8) + "/" + repeat("a", 8), repeat("a", 15) + "/.", repeat("a", 15) + "/A", repeat("abcdefghijk", 16) + "/abcdefg",
	repeat(thirteen, 14) + "/bcde", repeat(thirteen, 14) + "/bcdef", repeat(thirteen, 14) + "/b/cd", repeat(thirteen, 14) + "/bc/d", repeat(thirteen, 15), repeat(thirteen, 16), repeat("abcdefghijkl", 16), repeat(thirteen, 17),
	repeat(thirteen, 14) + "/bcd/", repeat(thirteen, 14) + "//bc", repeat(thirteen, 14) + "/bcD", repeat(thirteen, 14) + "/.", repeat(thirteen, 14) + "/..", strings.Repeat("/", 200), strings.Repeat("/", 201), strings.Repeat("a", 200), strings.Repeat("a", 201),
}

func goodPaths() []string {
	var list []string
	for _, g := range good {
		list = append(list, g.path)
	}
	return list
}

func wantSplit(t *testing.T, path string, want []string, e api.Errno) {
	t.Helper()
	if names, f := walk.Split(path); !slices.Equal(names, want) || f != e {
		t.Errorf("Split(%.300q): %.300q %d, not %q %d", path, names, f, want, e)
	}
}

func wantJoin(t *testing.T, names []string, want string, e api.Errno) {
	t.Helper()
	if path, f := walk.Join(names); path != want || f != e {
		t.Errorf("Join(%.300q): %.300q %d, not %q %d", names, path, f, want, e)
	}
}

func wantParent(t *testing.T, path, dir, name string, e api.Errno) {
	t.Helper()
	if d, n, f := walk.Parent(path); d != dir || n != name || f != e {
		t.Errorf("Parent(%.300q): %q %q %d, not %q %q %d", path, d, n, f, dir, name, e)
	}
}

func wantAbove(t *testing.T, a, b string, want bool, e api.Errno) {
	t.Helper()
	if is, f := walk.Above(a, b); is != want || f != e {
		t.Errorf("Above(%.300q, %.300q): %t %d, not %t %d", a, b, is, f, want, e)
	}
}

func wantOrder(t *testing.T, paths, want []string, e api.Errno) {
	t.Helper()
	if list, f := walk.Order(paths); !slices.Equal(list, want) || f != e {
		t.Errorf("Order(%.300q): %.300q %d, not %q %d", paths, list, f, want, e)
	}
}

// TestExamples: the examples of the chapter.
func TestExamples(t *testing.T) {
	wantSplit(t, "/a/b.c", []string{"a", "b.c"}, api.OK)
	for _, s := range []string{"//", "a", "/a/", "/A", ""} {
		wantSplit(t, s, nil, api.ErrName)
	}
	wantParent(t, "/a", "/", "a", api.OK)
	wantAbove(t, "/a", "/a/b", true, api.OK)
	wantAbove(t, "/a", "/ab", false, api.OK)
	wantOrder(t, []string{"/b", "/a/c", "/a", "/a-"}, []string{"/a", "/a/c", "/a-", "/b"}, api.OK)
}

// TestPaths: P16.1, Split and Join of paths whose names are written out.
func TestPaths(t *testing.T) {
	for _, g := range good {
		wantSplit(t, g.path, g.names, api.OK)
		wantJoin(t, g.names, g.path, api.OK)
	}
	wantJoin(t, nil, "/", api.OK)
	wantJoin(t, []string{}, "/", api.OK)
}

// TestNoPaths: P16.1 to P16.3, a text that is no path is refused by all calls.
func TestNoPaths(t *testing.T) {
	for _, s := range bad {
		wantSplit(t, s, nil, api.ErrName)
		wantParent(t, s, "", "", api.ErrName)
		wantAbove(t, s, s, false, api.ErrName)
		wantOrder(t, []string{s}, nil, api.ErrName)
		for _, path := range []string{"/", "/a", repeat("a", 16)} {
			wantAbove(t, s, path, false, api.ErrName)
			wantAbove(t, path, s, false, api.ErrName)
		}
		wantAbove(t, s, "", false, api.ErrName)
		wantAbove(t, "", s, false, api.ErrName)
	}
}

// TestLengths: P16.1, paths of all lengths around MaxPath, and of all numbers of names.
func TestLengths(t *testing.T) {
	for n := 184; n <= 210; n++ {
		path := longPath(n)
		if len(path) != n {
			t.Fatal("a path of", len(path), "bytes, not", n)
		}
		names := strings.Split(path, "/")[1:]
		if n <= api.MaxPath {
			wantSplit(t, path, names, api.OK)
			wantJoin(t, names, path, api.OK)
			wantParent(t, path, path[:strings.LastIndex(path, "/")], names[len(names)-1], api.OK)
			wantAbove(t, path, path, true, api.OK)
			wantOrder(t, []string{path, path}, []string{path}, api.OK)
		} else {
			wantSplit(t, path, nil, api.ErrName)
			wantJoin(t, names, "", api.ErrName)
			wantParent(t, path, "", "", api.ErrName)
			wantAbove(t, path, path, false, api.ErrName)
			wantAbove(t, "/", path, false, api.ErrName)
			wantAbove(t, path, "/", false, api.ErrName)
			wantOrder(t, []string{path, path}, nil, api.ErrName)
		}
	}
	for n := 1; n <= 13; n++ {
		for count := 1; count < 40; count++ {
			name := thirteen[:n]
			path, e := repeat(name, count), api.OK
			names := slices.Repeat([]string{name}, count)
			if count > 16 || count*(n+1) > 200 {
				e = api.ErrName
				wantSplit(t, path, nil, e)
				wantJoin(t, names, "", e)
			} else {
				wantSplit(t, path, names, e)
				wantJoin(t, names, path, e)
			}
		}
	}
}

// TestAllBytes: P16.1, each byte alone as a name, within names of a path, in the place of a /, and two of them.
func TestAllBytes(t *testing.T) {
	const inNames = "abcdefghijklmnopqrstuvwxyz0123456789._-"
	for c := range 256 {
		s := string([]byte{byte(c)})
		allowed := strings.Contains(inNames, s)
		for _, names := range [][]string{{s}, {s + "b"}, {"b" + s}, {"b" + s + "b", "c"}, {"c", "b" + s}, {"c", s, "d"}, {s, "d"}, {"d", s}, {s + s + s}} {
			path := "/" + strings.Join(names, "/")
			alone := slices.Contains(names, s)
			if allowed && !(alone && s == ".") {
				wantSplit(t, path, names, api.OK)
				wantJoin(t, names, path, api.OK)
				continue
			}
			wantJoin(t, names, "", api.ErrName)
			// The byte / may make another path of it.
			if c != '/' {
				wantSplit(t, path, nil, api.ErrName)
			}
		}
		if c != '/' {
			wantSplit(t, s, nil, api.ErrName)
			wantSplit(t, s+"a", nil, api.ErrName)
			wantSplit(t, s+"a/b", nil, api.ErrName)
		}
	}
}

// TestJoinRefuses: P16.1, lists of names that make no path.
func TestJoinRefuses(t *testing.T) {
	a := strings.Split("abcdefghijklmnopq", "")
	for _, names := range [][]string{
		{""}, {"", ""}, {"a", ""}, {"", "a"}, {"a", "", "b"},
		{"/"}, {"/a"}, {"a/"}, {"a/b"}, {"a", "b/c"}, {"a/b", "c"}, {"a", "/"}, {"/", "a"}, {"a", "/b"}, {"//"},
		{"."}, {".."}, {"a", "."}, {"a", ".."}, {".", "a"}, {"..", "a"}, {"a", "..", "b"},
		{"A"}, {"a", "B"}, {"A", "b"}, {"a b"}, {"\x00"}, {"a\x00"}, {"\x80"}, {"ä"}, {"a", "\xff"}, {"a\xff", "b"},
		{"abcdefghijklmn"}, {"a", "abcdefghijklmn"}, {"abcdefghijklmn", "a"}, {strings.Repeat("a", 100000)},
		a, append(slices.Clone(a), "r"), slices.Repeat(a, 1000), slices.Repeat([]string{""}, 16), slices.Repeat([]string{""}, 17), slices.Repeat([]string{""}, 100000),
		slices.Repeat([]string{thirteen}, 15), slices.Repeat([]string{thirteen}, 16), slices.Repeat([]string{thirteen}, 17), slices.Repeat([]string{"abcdefghijkl"}, 16),
		append(slices.Repeat([]string{thirteen}, 14), "bcde"), append(slices.Repeat([]string{thirteen}, 14), "bc", "d"), append(slices.Repeat([]string{thirteen}, 14), ""), append(slices.Repeat([]string{thirteen}, 14), "A"),
	} {
		wantJoin(t, names, "", api.ErrName)
	}
}

// TestParent: P16.2, both answers written out.
func TestParent(t *testing.T) {
	for _, r := range []struct{ path, dir, name string }{
		{"/a", "/", "a"}, {"/abcdefghijklm", "/", "abcdefghijklm"}, {"/a/b.c", "/a", "b.c"}, {"/a/b/c", "/a/b", "c"}, {"/a/a", "/a", "a"}, {"/-/..-", "/-", "..-"}, {"/...", "/", "..."},
		{repeat("a", 16), repeat("a", 15), "a"}, {repeat(thirteen, 14) + "/bcd", repeat(thirteen, 14), "bcd"}, {repeat(thirteen, 14), repeat(thirteen, 13), thirteen},
	} {
		wantParent(t, r.path, r.dir, r.name, api.OK)
	}
	wantParent(t, "/", "", "", api.ErrArg)
	for _, s := range []string{"", "//", "/a/", "a", "/.", "/..", "/A", repeat("a", 17), "//a", "///"} {
		wantParent(t, s, "", "", api.ErrName)
	}
}

// TestParentBack: P16.2, what Parent answers, put together, is the path again; what it answers first is above it.
func TestParentBack(t *testing.T) {
	for _, g := range good[1:] {
		dir, name, e := walk.Parent(g.path)
		if e != api.OK {
			t.Fatalf("Parent(%q): %d", g.path, e)
		}
		if again := strings.TrimSuffix(dir, "/") + "/" + name; again != g.path {
			t.Errorf("Parent(%q): %q %q", g.path, dir, name)
		}
		names, e := walk.Split(dir)
		if e != api.OK || !slices.Equal(append(names, name), g.names) {
			t.Errorf("Split(%q): %q %d", dir, names, e)
		}
		wantAbove(t, dir, g.path, true, api.OK)
		wantAbove(t, g.path, dir, false, api.OK)
	}
}

// TestParentsEnd: P16.2, Parent of Parent, and so on, has as many steps as there are names, till it is /.
func TestParentsEnd(t *testing.T) {
	for _, g := range good {
		path := g.path
		for i := len(g.names) - 1; i >= 0; i-- {
			dir, name, e := walk.Parent(path)
			if e != api.OK || name != g.names[i] {
				t.Fatalf("Parent(%q): %q %q %d", path, dir, name, e)
			}
			path = dir
			wantAbove(t, path, g.path, true, api.OK)
		}
		if path != "/" {
			t.Errorf("all parents of %q: %q", g.path, path)
		}
		wantParent(t, path, "", "", api.ErrArg)
	}
}

// TestAbove: P16.2, written out.
func TestAbove(t *testing.T) {
	for _, r := range []struct {
		a, b string
		want bool
	}{
		{"/", "/", true}, {"/", "/a", true}, {"/", "/a/b", true}, {"/", repeat("a", 16), true}, {"/a", "/", false}, {repeat("a", 16), "/", false},
		{"/a", "/a", true}, {"/a", "/b", false}, {"/b", "/a", false}, {"/a", "/a/b", true}, {"/a/b", "/a", false}, {"/a/b", "/a/b", true}, {"/a/b", "/a/b/c", true}, {"/a", "/a/b/c", true}, {"/a/b/c", "/a/b", false},
		{"/a", "/ab", false}, {"/ab", "/a", false}, {"/a", "/ab/c", false}, {"/a/b", "/a/bc", false}, {"/a/b", "/a/bc/d", false}, {"/ab", "/a/b", false}, {"/a/b", "/ab", false},
		{"/a", "/a-", false}, {"/a", "/a.", false}, {"/a", "/a0", false}, {"/a", "/a-/b", false}, {"/a-", "/a/b", false},
		{"/a/b", "/b", false}, {"/b", "/a/b", false}, {"/a/b", "/a/c", false}, {"/a/c", "/b/c", false}, {"/a/b", "/c/b", false}, {"/b/a", "/a/b", false}, {"/a/b", "/b/a", false}, {"/a/c", "/a/b/c", false}, {"/b/c", "/a/b/c", false}, {"/a", "/b/a", false},
		{"/a", repeat("a", 16), true}, {repeat("a", 15), repeat("a", 16), true}, {repeat("a", 16), repeat("a", 16), true}, {repeat("a", 16), repeat("a", 15), false}, {repeat("a", 15) + "/b", repeat("a", 16), false},
		{repeat(thirteen, 14), repeat(thirteen, 14) + "/bcd", true}, {repeat(thirteen, 14) + "/bc", repeat(thirteen, 14) + "/bcd", false}, {"/" + thirteen[:12], "/" + thirteen, false},
	} {
		wantAbove(t, r.a, r.b, r.want, api.OK)
	}
}

// TestAboveLooksAtBoth: P16.2, no answer that one text settles keeps the other from being looked at.
func TestAboveLooksAtBoth(t *testing.T) {
	for _, r := range [][2]string{
		{"/", ""}, {"", "/"}, {"/", "/a/"}, {"/a/", "/"}, {"/a", "/a/"}, {"/a/", "/a"}, {"/a", "/a//b"}, {"/a", "/a/B"}, {"/a", "/b/B"}, {"/b/B", "/a"}, {"/a", "b"}, {"a", "/a"}, {"/a/b/c", "//"}, {"//", "/a"},
		{"/a", repeat("a", 17)}, {repeat("a", 17), "/a"}, {repeat("a", 16), repeat("a", 17)}, {repeat("a", 17), repeat("a", 16)}, {"/", repeat(thirteen, 15)}, {repeat(thirteen, 15), "/"}, {"/a/..", "/a"}, {"/a", "/a/.."}, {"/a/b/..", "/a/c"}, {"/.", "/a"},
		{"", ""}, {"a", "a"}, {"/A", "/A"}, {"//", "//"}, {"", "a"}, {"/A", "/A/b"},
	} {
		wantAbove(t, r[0], r[1], false, api.ErrName)
	}
}
