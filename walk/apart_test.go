package walk_test

import (
	"slices"
	"strings"
	"testing"
	"unsafe"

	"skerry/api"
	"skerry/walk"
)

// behind answers list with room behind it, and all of that memory; what stands in the room would tell if it were read.
func behind(list []string, mark string) (short, all []string) {
	all = append(slices.Clone(list), slices.Repeat([]string{mark}, 40)...)
	return all[:len(list)], all
}

// fill writes over a list, and the room behind it.
func fill(list []string, s string) {
	list = list[:cap(list)]
	for i := range list {
		list[i] = s
	}
}

// share answers whether two texts have a byte of memory in common.
func share(a, b string) bool {
	if a == "" || b == "" {
		return false
	}
	p, q := uintptr(unsafe.Pointer(unsafe.StringData(a))), uintptr(unsafe.Pointer(unsafe.StringData(b)))
	return p < q+uintptr(len(b)) && q < p+uintptr(len(a))
}

// lists are lists for Join and for Order, good ones and bad ones.
var lists = [][]string{
	nil, {}, {"a"}, {"a", "b"}, {"b", "a"}, {"", "a"}, {"a", "/"}, slices.Repeat([]string{"a"}, 15), slices.Repeat([]string{"a"}, 16), slices.Repeat([]string{"a"}, 17), slices.Repeat([]string{thirteen}, 14),
	{"/a"}, {"/b", "/a"}, {"/b", "/a/c", "/a", "/a-", "/a"}, {"/b", "/b"}, {"/"}, {"/", "/"}, {"/a", "/a/"}, {"/b", "", "/a"}, {"/c", "/b", "/a", "//"}, ranks,
}

// TestListsApart: R4 and R5, lists that are handed in, and the room behind them, are not changed, the room is not read, and nothing of it is kept.
func TestListsApart(t *testing.T) {
	for _, list := range lists {
		path, e := walk.Join(slices.Clip(slices.Clone(list)))
		order, f := walk.Order(slices.Clip(slices.Clone(list)))
		order = slices.Clone(order)
		for _, mark := range []string{"", "z", "/z", "/", "/a", "//"} {
			short, all := behind(list, mark)
			before := slices.Clone(all)
			wantJoin(t, short, path, e)
			wantOrder(t, short, order, f)
			if !slices.Equal(all, before) {
				t.Errorf("%q with %q behind it has been written over: %q", list, mark, all)
			}
			got, _ := walk.Order(short)
			fill(all, "/zz")
			if !slices.Equal(got, order) {
				t.Errorf("Order(%q) has kept its list: %q", list, got)
			}
			wantJoin(t, slices.Clone(list), path, e)
			wantOrder(t, slices.Clone(list), order, f)
		}
	}
}

// TestAnswersApart: R4, what is answered is new, the room behind lists too: writing over it changes neither what was handed in nor another answer.
func TestAnswersApart(t *testing.T) {
	for _, g := range good {
		one, _ := walk.Split(g.path)
		two, _ := walk.Split(g.path)
		fill(one, "/")
		if !slices.Equal(two, g.names) {
			t.Errorf("two answers of Split(%q) share memory: %q", g.path, two)
		}
		wantSplit(t, g.path, g.names, api.OK)
	}
	for _, list := range lists {
		short, all := behind(list, "/q")
		before := slices.Clone(all)
		one, _ := walk.Order(short)
		two, _ := walk.Order(short)
		kept := slices.Clone(two)
		fill(one, "//")
		if !slices.Equal(two, kept) || !slices.Equal(all, before) {
			t.Errorf("Order(%q) shares memory: %q %q", list, two, all)
		}
		fill(two, "//")
		if !slices.Equal(all, before) {
			t.Errorf("Order(%q) shares memory with its list: %q", list, all)
		}
	}
}

// TestTextsApart: R4, the texts that are answered share no memory with those that were handed in.
func TestTextsApart(t *testing.T) {
	check := func(call, given string, answers ...string) {
		t.Helper()
		for _, s := range answers {
			if share(given, s) {
				t.Errorf("%s of %q: %q is memory of it", call, given, s)
			}
		}
	}
	if s := "/a/b"; !share(s, s[2:]) || share(s, strings.Clone(s)) {
		t.Fatal("the test cannot tell")
	}
	for _, g := range good {
		path := strings.Clone(g.path)
		names, _ := walk.Split(path)
		check("Split", path, names...)
		dir, name, _ := walk.Parent(path)
		check("Parent", path, dir, name)
		order, _ := walk.Order([]string{path, path})
		check("Order", path, order...)
		for _, n := range g.names {
			n = strings.Clone(n)
			joined, _ := walk.Join([]string{n})
			check("Join", n, joined)
		}
	}
}

// TestErrorsLeaveNothing: R5 and R6, calls that are refused, and calls with others, change no later answer.
func TestErrorsLeaveNothing(t *testing.T) {
	for range 3 {
		for _, s := range bad {
			walk.Split(s)
			walk.Join([]string{"a", s})
			walk.Parent(s)
			walk.Above(s, "/a")
			walk.Above("/a", s)
			walk.Order([]string{"/z", "/a", s})
		}
		walk.Parent("/")
		walk.Order(ranks)
		for _, g := range good {
			wantSplit(t, g.path, g.names, api.OK)
			wantJoin(t, g.names, g.path, api.OK)
		}
		wantParent(t, "/a/b", "/a", "b", api.OK)
		wantAbove(t, "/a", "/a/b", true, api.OK)
		wantOrder(t, []string{"/b", "/a"}, []string{"/a", "/b"}, api.OK)
		wantOrder(t, nil, nil, api.OK)
	}
}

// TestGreatArguments: R1, texts and lists that are far too long, or just long, are answered.
func TestGreatArguments(t *testing.T) {
	const many = 1 << 22
	for _, s := range []string{strings.Repeat("/", many), strings.Repeat("/a", many), "/" + strings.Repeat("a", many), strings.Repeat("\x00", many), strings.Repeat("/"+thirteen, many/14)} {
		wantSplit(t, s, nil, api.ErrName)
		wantParent(t, s, "", "", api.ErrName)
		wantAbove(t, s, s, false, api.ErrName)
		wantJoin(t, []string{s}, "", api.ErrName)
		wantOrder(t, []string{"/a", s}, nil, api.ErrName)
	}
	wantJoin(t, slices.Repeat([]string{"a"}, many), "", api.ErrName)
	wantJoin(t, slices.Repeat([]string{""}, many), "", api.ErrName)
	deep := slices.Repeat([]string{repeat("abcdefghijk", 15) + "/b", repeat("abcdefghijk", 15) + "/a-", repeat("abcdefghijk", 15) + "/a"}, 50000)
	wantOrder(t, deep, []string{deep[2], deep[1], deep[0]}, api.OK)
}
