package fsys_test

import (
	"bytes"
	"fmt"
	"slices"
	"strings"
	"testing"
	"unsafe"

	"skerry/api"
	"skerry/codec"
	"skerry/fsys"
)

// lent answers a text whose bytes can be written over behind a call.
func lent(s string) (string, []byte) {
	b := append([]byte(s), 0)
	return unsafe.String(&b[0], len(s)), b
}

// shares answers whether two texts have a byte of memory in common.
func shares(a, b string) bool {
	if a == "" || b == "" {
		return false
	}
	p, q := uintptr(unsafe.Pointer(unsafe.StringData(a))), uintptr(unsafe.Pointer(unsafe.StringData(b)))
	return p < q+uintptr(len(b)) && q < p+uintptr(len(a))
}

// TestPathsApart: R4, nothing of a path that is handed in is kept but its bytes' values.
func TestPathsApart(t *testing.T) {
	w := begun(t, planned(t, 64, 200, 20, 40), 100, nil)
	for _, line := range []string{"mkdir /dir", "create /dir/file", "link /dir/file /dir/name", "rename /dir /moved", "open /moved/name", "create /gone", "unlink /gone", "mkdir /gone", "stat /moved/file", "list /moved", "rename /moved/file /none/x", "link /moved/name /moved", "rmdir /gone", "mkdir /moved/sub", "rename /moved/sub /moved/other"} {
		c := parse(line)
		wanted := do(w.m, c)
		old, oldBytes := lent(c.old)
		path, pathBytes := lent(c.path)
		kept := c
		c.old, c.path = old, path
		got := do(w.s, c)
		if !got.same(wanted) {
			t.Errorf("%s: %v, should be %v", line, got, wanted)
		}
		if c.old != kept.old || c.path != kept.path {
			t.Errorf("%s has been written over: %q %q", line, c.old, c.path)
		}
		blot(oldBytes)
		blot(pathBytes)
		w.holds(line)
	}
	w.synced("lent paths")
}

// TestTextsApart: R4, names that are answered are new memory.
func TestTextsApart(t *testing.T) {
	w := begun(t, planned(t, 64, 200, 20, 40), 100, nil)
	var all []string
	for _, line := range []string{"mkdir /dir", "create /dir/file", "link /dir/file /dir/name", "mkdir /dir/sub", "create /dir/sub/file", "link /dir/file /top"} {
		c := parse(line)
		all = append(all, c.old, c.path)
		want(t, line, do(w.s, c).e, api.OK)
	}
	for range 2 {
		for _, path := range []string{"/", "/dir", "/dir/sub"} {
			list, e := w.s.List(path)
			want(t, "List", e, api.OK)
			for _, entry := range list {
				for _, other := range all {
					if shares(entry.Name, other) {
						t.Errorf("%q shares memory with %q", entry.Name, other)
					}
				}
				all = append(all, entry.Name)
			}
		}
	}
}

// TestDataApart: R4, bytes that are handed in are neither kept nor changed, and the room behind them is neither read nor written.
func TestDataApart(t *testing.T) {
	p := planned(t, 64, 700, 12, 40)
	for _, n := range []int{0, 1, 7, 64, 4095, 4096} {
		for _, at := range []int{0, 1, 10, 5000} {
			w := begun(t, p, 200, nil, "create /a", "open /a", "create /b", "open /b")
			room := bytes.Repeat([]byte("data"), 2000)
			before := bytes.Clone(room)
			for f := range 2 {
				want(t, "Write", w.s.Write(f, at, room[:n]), api.OK)
				do(w.m, call{name: "write", f: f, at: at, data: string(room[:n])})
			}
			if !bytes.Equal(room, before) {
				t.Error("what was handed in has been written over")
			}
			blot(room)
			w.holds("the bytes written over")
			w.ok("write 0 0 zz", "truncate 1 9000", "write 1 8999 z")
			w.synced("the bytes written over")
		}
	}
	// Refused ones are not changed either.
	w := begun(t, p, 20, nil, "create /a", "open /a")
	room := bytes.Repeat([]byte("data"), 2000)
	before := bytes.Clone(room)
	for _, c := range []call{{at: -1}, {at: 1 << 20}, {f: 1}, {f: -1}} {
		if e := w.s.Write(c.f, c.at, room[:5]); e == api.OK {
			t.Error("Write: ", c)
		}
	}
	if e := w.s.Write(0, 0, room); e != api.ErrLarge || !bytes.Equal(room, before) {
		t.Error("what was handed in has been written over")
	}
}

// TestAnswersApart: R4, what Read and List answer is new memory, the room behind it too.
func TestAnswersApart(t *testing.T) {
	p := planned(t, 64, 700, 12, 40)
	for _, capacity := range []int{1, 200} {
		w := begun(t, p, capacity, nil, "create /a", "open /a", "open /a", "write 0 0 "+strings.Repeat("text", 1000), "create /b", "mkdir /c")
		for _, n := range []int{1, 5, 64, 3999, 4000, 4096} {
			for _, at := range []int{0, 1, 3000} {
				one, _ := w.s.Read(0, at, n)
				two, _ := w.s.Read(1, at, n)
				kept := bytes.Clone(two)
				blot(one)
				if !bytes.Equal(two, kept) {
					t.Errorf("two answers of %d bytes share memory", n)
				}
				blot(two)
				w.holds("what Read answered was written over")
			}
		}
		one, _ := w.s.List("/")
		two, _ := w.s.List("/")
		kept := slices.Clone(two)
		clear(one[:cap(one)])
		if !slices.Equal(two, kept) || len(kept) != 3 {
			t.Error("two lists share memory")
		}
		clear(two[:cap(two)])
		data, _ := w.s.Read(0, 0, 4096)
		was := bytes.Clone(data)
		w.ok("write 0 0 changed", "truncate 0 10", "truncate 0 4000", "close 0", "close 1", "unlink /a", "sync", "rmdir /c")
		if !bytes.Equal(data, was) {
			t.Error("what Read answered has changed")
		}
		w.synced("what was answered was written over")
	}
}

// TestPicksApart: R4, picks are neither kept nor changed, and the room behind them is not read.
func TestPicksApart(t *testing.T) {
	p := planned(t, 64, 120, 12, 40)
	script := []string{"create /a", "open /a", "write 0 0 " + text(1, 1000)}
	for _, n := range []int{0, 1, 5, 20} {
		x := dice(n)
		kept := x.picks(n)
		twin := begun(t, p, 4, kept, script...)
		room := append(slices.Clone(kept), slices.Repeat([]int{1 << 40}, 30)...)
		before := slices.Clone(room)
		w := begun(t, p, 4, room[:n], "create /a")
		if !slices.Equal(room, before) {
			t.Error("picks were changed")
		}
		for i := range room {
			room[i] = 1
		}
		w.ok(script[1:]...)
		if a, b := w.d.Waiting(), twin.d.Waiting(); !slices.Equal(a, b) {
			t.Errorf("%d picks: %v waits, should be %v", n, a, b)
		}
	}
}

// TestDevicesApart: R5, what one file system answers does not hang on calls on others.
func TestDevicesApart(t *testing.T) {
	var worlds []*world
	for i := range 3 {
		worlds = append(worlds, begun(t, planned(t, 64, 200, 12, 40), 1+3*i, nil))
	}
	x := dice(5)
	for range 600 {
		w := pick(&x, worlds)
		w.both(themes()[0].anyCall(&x, w, []string{"a", "b", "c"}))
	}
	for _, w := range worlds {
		w.holds("calls on others")
		w.synced("calls on others")
	}
}

// TestAnyBytes: R1, whatever is written to a device below a file system: each of its calls ends, without a panic.
func TestAnyBytes(t *testing.T) {
	p := planned(t, 64, 200, 20, 40)
	told := asked{}
	for seed := range 300 {
		x := dice(40000 + seed)
		w := begun(t, p, 1+x.below(3), nil, "mkdir /d", "create /d/a", "open /d/a", "write 0 0 "+text(1, 900), "mkdir /d/e", "create /d/e/b", "link /d/a /c", "mkdir /f", "open /c", "sync")
		for range 1 + x.below(4) {
			b := p.IBits + x.below(p.Data+30-p.IBits)
			data, _ := w.d.Read(b)
			for range 1 + x.below(8) {
				data[x.below(64)] = byte(pick(&x, []int{0, 1, 2, 3, 4, 46, 97, 255, x.below(256)}))
			}
			want(t, "Load", w.d.Load(b, data), api.OK)
		}
		for range 40 {
			c := pick(&x, themes()).anyCall(&x, w, []string{"a", "b", "c", "d", "e"})
			a := do(w.s, c)
			told[fmt.Sprint("any", a.e)]++
			if a.e != api.OK && !a.same(answer{e: a.e}) {
				t.Errorf("seed %d, %v: %v beside an error", seed, c, a)
			}
			w.s.Free()
		}
	}
	told.want(t, "any", api.OK, api.ErrCorrupt)
}

// rewritten lets all names of a directory, but for those of bytes 0, name another inode, by bytes that are written below its file system.
func (w *world) rewritten(inode, to int) {
	w.t.Helper()
	image := imageOf(w.t, w.d)
	block, at := w.p.Table+inode*32/64, inode*32%64
	x, e := codec.Uninode(image[block][at : at+32])
	want(w.t, "Uninode", e, api.OK)
	for _, b := range x.Direct[:(x.Size+63)/64] {
		data := image[b]
		for at := 0; at < 64; at += 16 {
			if data[at] != 0 {
				data[at] = byte(to)
			}
		}
		want(w.t, "Load", w.d.Load(b, data), api.OK)
	}
}

// TestRings: R1, directories that name themselves, or the next one many times, by bytes that were written below a mounted file system: a Rename that asks for all that is below them ends soon.
func TestRings(t *testing.T) {
	for _, ring := range []bool{false, true} {
		w := begun(t, planned(t, 64, 400, 40, 60), 1, nil, "create /f")
		path := ""
		var inodes []int
		for range 14 {
			path += "/d"
			w.ok("mkdir " + path)
			for i := range 19 {
				w.ok(fmt.Sprint("link /f ", path, "/", i))
			}
			inodes = append(inodes, w.want("stat "+path, api.OK).stat.Inode)
		}
		w.ok("sync", "stat /")
		for k, i := range inodes[:len(inodes)-1] {
			to := inodes[k+1]
			if ring {
				to = inodes[0]
			}
			w.rewritten(i, to)
		}
		// All ways through it are more than anybody would wait for.
		if e := w.s.Rename("/d", "/x"); e == api.OK {
			t.Error("Rename of a ring: OK")
		}
	}
}

// TestTwoAtOnce: R1, two file systems on one device, which nobody should have: their calls end, without a panic.
func TestTwoAtOnce(t *testing.T) {
	for seed := range 20 {
		x := dice(seed)
		w := begun(t, planned(t, 64, 200, 20, 40), 1+x.below(5), nil)
		others := []*fsys.FS{w.s, mount(t, w.d, 5)}
		for range 300 {
			do(pick(&x, others), themes()[0].anyCall(&x, w, []string{"a", "b"}))
		}
	}
}
