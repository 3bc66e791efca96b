package walk_test

import (
	"slices"
	"strings"
	"testing"

	"skerry/api"
	"skerry/walk"
)

// ranks are paths as Order has to tell them, written out: - and . stand below /, all others above it.
var ranks = []string{
	"/",
	"/-", "/-/-", "/-/.-", "/-/a", "/--", "/--/a", "/-.", "/-a",
	"/.-", "/...", "/.a",
	"/0", "/0/z", "/00", "/01", "/0a", "/1", "/10", "/2", "/9",
	"/_", "/_/a", "/__", "/_a",
	"/a", "/a/-", "/a/-/z", "/a/--", "/a/.-", "/a/0", "/a/_", "/a/a", "/a/a/-", "/a/a/a", "/a/a/a/a", "/a/a/b", "/a/a-", "/a/a-/a", "/a/a.", "/a/a0", "/a/a_", "/a/aa", "/a/ab", "/a/b", "/a/b/a", "/a/z",
	"/a-", "/a-/a", "/a-a", "/a.", "/a./a", "/a.b", "/a0", "/a0/a", "/a_", "/a_/a", "/aa", "/aa/a", "/aaa", "/aaaaaaaaaaaaa", "/aaaaaaaaaaaab", "/ab", "/ab/a", "/az",
	"/b", "/b/-", "/b/a", "/b/a/a", "/b-",
	"/z", "/zz",
}

// TestOrder: P16.3, lists of none, one, two and more paths, written out.
func TestOrder(t *testing.T) {
	for _, r := range []struct{ paths, want []string }{
		{nil, nil}, {[]string{}, nil},
		{[]string{"/"}, []string{"/"}}, {[]string{"/a"}, []string{"/a"}}, {[]string{"/a/b"}, []string{"/a/b"}},
		{[]string{"/", "/"}, []string{"/"}}, {[]string{"/a", "/a"}, []string{"/a"}}, {[]string{"/a/b", "/a/b", "/a/b"}, []string{"/a/b"}},
		{[]string{"/a", "/"}, []string{"/", "/a"}}, {[]string{"/b", "/a"}, []string{"/a", "/b"}}, {[]string{"/a/b", "/a"}, []string{"/a", "/a/b"}}, {[]string{"/a-", "/a/b"}, []string{"/a/b", "/a-"}}, {[]string{"/a.", "/a/b"}, []string{"/a/b", "/a."}}, {[]string{"/ab", "/a/c"}, []string{"/a/c", "/ab"}},
		{[]string{"/b", "/a/z"}, []string{"/a/z", "/b"}}, {[]string{"/b/a", "/a"}, []string{"/a", "/b/a"}}, {[]string{"/a/c", "/a/b/d"}, []string{"/a/b/d", "/a/c"}},
		{[]string{"/a/b", "/a", "/a/b", "/", "/a"}, []string{"/", "/a", "/a/b"}},
		{[]string{"/b", "/b", "/a", "/b", "/a"}, []string{"/a", "/b"}},
		{[]string{"/10", "/9", "/2"}, []string{"/10", "/2", "/9"}},
		{[]string{repeat("a", 16), repeat("a", 15) + "/-", repeat("a", 15), repeat("a", 14) + "/a-"}, []string{repeat("a", 15), repeat("a", 15) + "/-", repeat("a", 16), repeat("a", 14) + "/a-"}},
	} {
		wantOrder(t, r.paths, r.want, api.OK)
	}
}

// TestRanks: P16.3, all pairs of paths and all runs of them, whichever way they are handed in.
func TestRanks(t *testing.T) {
	for i, a := range ranks {
		for j, b := range ranks[i:] {
			run := ranks[i : i+j+1]
			want := []string{a, b}
			if j == 0 {
				want = want[:1]
			}
			wantOrder(t, []string{a, b}, want, api.OK)
			wantOrder(t, []string{b, a}, want, api.OK)
			wantOrder(t, []string{b, a, b, a, a}, want, api.OK)
			wantOrder(t, run, run, api.OK)
			back := slices.Clone(run)
			slices.Reverse(back)
			wantOrder(t, back, run, api.OK)
			wantOrder(t, slices.Concat(back, run, back), run, api.OK)
		}
	}
}

// turns calls f with the list in each order that it can have.
func turns(list []string, f func()) {
	if len(list) < 2 {
		f()
		return
	}
	for i := range list {
		list[0], list[i] = list[i], list[0]
		turns(list[1:], f)
		list[0], list[i] = list[i], list[0]
	}
}

// TestTurns: P16.3, each order of some paths, with some of them twice, gives the same answer.
func TestTurns(t *testing.T) {
	for _, want := range [][]string{
		{"/", "/a", "/a/-", "/a/c", "/a-", "/b"},
		{"/a", "/a/b", "/a/b/c", "/a/b-", "/a/bb", "/a."},
		{"/a/a", "/a/a/a", "/a/a.", "/a/b", "/aa/a", "/b/a"},
		{"/-", "/-/-", "/--", "/.-", "/0", "/_", "/a"},
	} {
		list := slices.Clone(want)
		turns(list, func() {
			wantOrder(t, list, want, api.OK)
		})
		list = append(slices.Clone(want[1:]), want[1], want[3])
		turns(list[:7], func() {
			wantOrder(t, list, want[1:], api.OK)
		})
	}
}

// TestOneIsNoPath: P16.3, one text that is no path, wherever it stands, and how often, is ErrName for all.
func TestOneIsNoPath(t *testing.T) {
	for _, s := range bad {
		for i := range 5 {
			wantOrder(t, slices.Insert([]string{"/b", "/a", "/", "/a"}, i, s), nil, api.ErrName)
		}
		wantOrder(t, []string{s, s}, nil, api.ErrName)
		wantOrder(t, []string{s, "//"}, nil, api.ErrName)
		wantOrder(t, []string{"/" + s, s}, nil, api.ErrName)
	}
	wantOrder(t, bad, nil, api.ErrName)
	many := slices.Repeat([]string{"/a", "/b/c"}, 5000)
	for _, i := range []int{0, 1, 4999, 9999, 10000} {
		wantOrder(t, slices.Insert(slices.Clone(many), i, "/a/"), nil, api.ErrName)
	}
}

// TestManyPaths: P16.3, a great tree, handed in front to back, back to front, and mixed, each path several times.
func TestManyPaths(t *testing.T) {
	letters := strings.Split("-.09_abz", "")
	var want []string
	var grow func(path string, depth int)
	grow = func(path string, depth int) {
		want = append(want, path)
		if depth == 0 {
			return
		}
		for _, x := range letters {
			for _, y := range append([]string{""}, letters...) {
				if name := x + y; name != "." && name != ".." {
					grow(strings.TrimSuffix(path, "/")+"/"+name, depth-1)
				}
			}
		}
	}
	grow("/", 2)
	list := slices.Clone(want)
	wantSame := func() {
		t.Helper()
		if got, e := walk.Order(list); e != api.OK || !slices.Equal(got, want) {
			t.Errorf("Order of %d paths: %d %d", len(list), len(got), e)
		}
	}
	wantSame()
	slices.Reverse(list)
	wantSame()
	x := dice(7)
	for range 4 {
		x.mix(list)
		wantSame()
		list = append(list, list[:1000]...)
	}
}

// TestOrderAgain: P16.3, what Order answers is its own order.
func TestOrderAgain(t *testing.T) {
	list, e := walk.Order(goodPaths())
	if e != api.OK || len(list) != len(good) {
		t.Fatalf("Order: %q %d", list, e)
	}
	wantOrder(t, list, list, api.OK)
}
