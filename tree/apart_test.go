package tree_test

import (
	"bytes"
	"slices"
	"strings"
	"testing"
	"unsafe"

	"skerry/api"
	"skerry/tree"
)

// lent answers a text whose bytes can be written over behind a call.
func lent(s string) (string, []byte) {
	b := append([]byte(s), 0)
	return unsafe.String(&b[0], len(s)), b
}

// shares answers whether two texts have a byte of memory in common.
func shares(a, b string) bool {
	if a == "" || b == "" {
		return false
	}
	p, q := uintptr(unsafe.Pointer(unsafe.StringData(a))), uintptr(unsafe.Pointer(unsafe.StringData(b)))
	return p < q+uintptr(len(b)) && q < p+uintptr(len(a))
}

// TestPathsApart: R4, nothing of a path that is handed in is kept but its bytes' values.
func TestPathsApart(t *testing.T) {
	w := begun(t, 1000)
	for _, line := range []string{"mkdir /dir", "create /dir/file", "link /dir/file /dir/name", "rename /dir /moved", "open /moved/name", "create /gone", "unlink /gone", "mkdir /gone", "stat /moved/file", "list /moved", "rename /moved/file /none/x", "link /moved/name /moved", "rmdir /gone", "mkdir /moved/sub", "rename /moved/sub /moved/other"} {
		c := parse(line)
		wanted := w.m.do(c)
		old, oldBytes := lent(c.old)
		path, pathBytes := lent(c.path)
		kept := c
		c.old, c.path = old, path
		got := do(w.x, c)
		if !got.same(wanted) {
			t.Errorf("%s: %v, should be %v", line, got, wanted)
		}
		if c.old != kept.old || c.path != kept.path {
			t.Errorf("%s has been written over: %q %q", line, c.old, c.path)
		}
		blot(oldBytes)
		blot(pathBytes)
		w.holds(line)
	}
}

// TestTextsApart: R4, names and paths that are answered are new memory: they share none with an argument, with the tree, or with one another.
func TestTextsApart(t *testing.T) {
	x := made(t, 1000)
	var given []string
	for _, line := range []string{"mkdir /dir", "create /dir/file", "link /dir/file /dir/name", "mkdir /dir/sub", "create /dir/sub/file", "link /dir/file /top"} {
		c := parse(line)
		given = append(given, c.old, c.path)
		do(x, c)
	}
	var answered []string
	for range 2 {
		for _, path := range []string{"/", "/dir", "/dir/sub"} {
			list, _ := x.List(path)
			for _, entry := range list {
				answered = append(answered, entry.Name)
			}
		}
		// The path of the root is a constant text.
		for _, n := range x.Dump()[1:] {
			answered = append(answered, n.Path)
		}
	}
	for i, a := range answered {
		for _, b := range slices.Concat(given, answered[:i]) {
			if shares(a, b) {
				t.Errorf("%q shares memory with %q", a, b)
			}
		}
	}
}

// TestDataApart: R4, bytes that are handed in are neither kept nor changed, and the room behind them is neither read nor written.
func TestDataApart(t *testing.T) {
	for _, n := range []int{0, 1, 7, 64, 4095, 4096} {
		for _, at := range []int{0, 1, 10, 5000} {
			w := begun(t, 10000, "create /a", "open /a", "create /b", "open /b")
			room := bytes.Repeat([]byte("data"), 2000)
			before := bytes.Clone(room)
			for f := range 2 {
				if e := w.x.Write(f, at, room[:n]); e != api.OK {
					t.Fatal("Write: ", e)
				}
				w.m.do(call{name: "write", f: f, at: at, data: string(room[:n])})
			}
			if !bytes.Equal(room, before) {
				t.Error("what was handed in has been written over")
			}
			w.holds("Write")
			blot(room)
			w.holds("the bytes written over")
			// What another file gets is its own.
			w.ok("write 0 0 zz", "truncate 1 9000", "write 1 8999 z")
		}
	}
	// Refused ones are not changed either.
	w := begun(t, 100, "create /a", "open /a")
	room := bytes.Repeat([]byte("data"), 2000)
	before := bytes.Clone(room)
	for _, c := range []call{{at: -1}, {at: 100}, {f: 1}, {f: -1}} {
		if e := w.x.Write(c.f, c.at, room[:5]); e == api.OK {
			t.Error("Write: ", c)
		}
	}
	if e := w.x.Write(0, 0, room); e != api.ErrLarge || !bytes.Equal(room, before) {
		t.Error("what was handed in has been written over")
	}
}

// TestReadApart: R4, what Read answers is new memory, the room behind it too.
func TestReadApart(t *testing.T) {
	w := begun(t, 10000, "create /a", "open /a", "open /a", "write 0 0 "+strings.Repeat("text", 1000))
	for _, n := range []int{1, 5, 64, 3999, 4000, 4096} {
		for _, at := range []int{0, 1, 3000} {
			one, _ := w.x.Read(0, at, n)
			two, _ := w.x.Read(1, at, n)
			kept := bytes.Clone(two)
			blot(one)
			if !bytes.Equal(two, kept) {
				t.Errorf("two answers of %d bytes share memory", n)
			}
			w.holds("what Read answered was written over")
			blot(two)
			w.holds("what Read answered was written over")
		}
	}
	// What was answered is as it was, whatever is done to the file.
	data, _ := w.x.Read(0, 0, 4096)
	kept := bytes.Clone(data)
	w.ok("write 0 0 changed", "truncate 0 10", "truncate 0 9000", "close 0", "close 1", "unlink /a")
	if !bytes.Equal(data, kept) {
		t.Error("what Read answered has changed")
	}
}

// TestListsApart: R4, what List and Dump answer is new memory, the bytes of each name of a file too, and the room behind all of it.
func TestListsApart(t *testing.T) {
	w := rich(t)
	w.ok("write 0 20 more")
	one, _ := w.x.List("/")
	two, _ := w.x.List("/")
	kept := slices.Clone(two)
	clear(one[:cap(one)])
	if !slices.Equal(two, kept) {
		t.Error("two lists share memory")
	}
	clear(two[:cap(two)])
	w.holds("what List answered was written over")
	w.list("/b", "c:2:5", "z:1:3")

	nodes, other, wanted := w.x.Dump(), w.x.Dump(), w.m.nodes()
	for i := range nodes {
		blot(nodes[i].Data)
		for k := i + 1; k < len(nodes); k++ {
			if !bytes.Equal(nodes[k].Data, wanted[k].Data) {
				t.Errorf("the bytes of %s are those of %s", nodes[k].Path, nodes[i].Path)
			}
		}
	}
	clear(nodes[:cap(nodes)])
	if !sameNodes(other, wanted) {
		t.Error("two answers of Dump share memory")
	}
	w.holds("what Dump answered was written over")
	// What was told stays, whatever is done.
	w.ok("write 0 0 x", "truncate 1 3", "rename /b /d", "unlink /a", "truncate 0 4")
	if !sameNodes(other, wanted) {
		t.Error("what Dump answered has changed")
	}
}

// TestTreesApart: R5, what one tree answers does not hang on calls on others.
func TestTreesApart(t *testing.T) {
	var worlds []*world
	for _, n := range []int{100, 1000, 100} {
		worlds = append(worlds, begun(t, n))
	}
	x := dice(5)
	for range 600 {
		w := pick(&x, worlds)
		w.both(anyCall(&x, w.m, []string{"a", "b", "c"}))
		for _, v := range worlds {
			v.holds("a call on another tree")
		}
	}
	// Handles are each tree's own.
	a, b := made(t, 100), made(t, 100)
	a.Create("/a")
	b.Create("/b")
	if f, _ := a.Open("/a"); f != 0 {
		t.Errorf("Open: %d", f)
	}
	if e := b.Close(0); e != api.ErrHandle {
		t.Errorf("Close: %d", e)
	}
	if f, _ := b.Open("/b"); f != 0 {
		t.Errorf("Open: %d", f)
	}
	var none *tree.Tree
	none.Close(0)
	if e := a.Close(0); e != api.OK {
		t.Errorf("Close: %d", e)
	}
}
