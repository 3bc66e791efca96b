package dir_test

import (
	"bytes"
	"fmt"
	"slices"
	"strings"
	"testing"

	"skerry/api"
	"skerry/codec"
	"skerry/dir"
	"skerry/file"
)

// TestExample: the chapter's example, with the bytes that stand there behind each call.
func TestExample(t *testing.T) {
	p := planned(t, 64, 100, 10, 30)
	w, o := founded(t, p, 4)
	w.insert(o, 2, "b", 5)
	w.insert(o, 2, "a", 6)
	w.insert(o, 2, "c", 7)
	w.wantList(o, 2, page{{Inode: 6, Name: "a"}, {Inode: 5, Name: "b"}, {Inode: 7, Name: "c"}})
	zeros := string(make([]byte, 13))
	if got := string(w.all(o, 2)); got != "\x05\x00b"+zeros+"\x06\x00a"+zeros+"\x07\x00c"+zeros {
		t.Errorf("%q", got)
	}
	w.remove(o, 2, "b")
	if got := string(w.all(o, 2)); got != "\x07\x00c"+zeros+"\x06\x00a"+zeros {
		t.Errorf("%q", got)
	}
	w.wantList(o, 2, page{{Inode: 6, Name: "a"}, {Inode: 7, Name: "c"}})
	want(t, "Insert", dir.Insert(o, w.u, p, 2, "a", 8), api.ErrExists)
	w.wantFind(o, 2, "no", 0, api.ErrNone)
	w.wantFind(o, 2, "..", 0, api.ErrName)
	w.set(o, 2, "a", 513)
	if got := string(w.all(o, 2)); got != "\x07\x00c"+zeros+"\x01\x02a"+zeros {
		t.Errorf("%q", got)
	}
	w.wantFind(o, 2, "a", 513, api.OK)
}

// goodNames and badNames are names at the edges: none, one byte, as many as may be and one more, each byte alone, ahead of others, behind them and between.
func goodNames() []string {
	list := []string{"...", "....", ".a", "a.", "..a", "a..", ".-", "-", "_", "--", strings.Repeat(".", 13), strings.Repeat("a", 12), strings.Repeat("a", 13), "0123456789abc", "a.b_c-9"}
	for _, c := range []byte("abcdefghijklmnopqrstuvwxyz0123456789_-") {
		list = append(list, string([]byte{c}), string([]byte{'.', c}), string([]byte{c, '.', '.'}))
	}
	slices.Sort(list)
	return slices.Compact(list)
}

func badNames() []string {
	list := []string{"", ".", "..", strings.Repeat("a", 14), strings.Repeat(".", 14), strings.Repeat("a", 15), strings.Repeat("a", 16), strings.Repeat("b", 70000), "no name", "a/b", "/", "ä", "a\x00", "\x00a", "aé"}
	for c := range 256 {
		if !strings.ContainsRune("abcdefghijklmnopqrstuvwxyz0123456789_-.", rune(c)) {
			s := string([]byte{byte(c)})
			list = append(list, s, s+"a", "a"+s, "a"+s+"a", strings.Repeat("a", 12)+s, strings.Repeat("a", 13)+s)
		}
	}
	return list
}

// TestNames: P15.1 to P15.3: all names that are allowed are inserted, found, set and removed; all others are ErrName, whatever is asked, and nothing has changed.
func TestNames(t *testing.T) {
	p := planned(t, 64, 500, 10, 200)
	w, o := founded(t, p, 5)
	var g page
	for n, name := range goodNames() {
		g.insert(p, name, n+1, 999)
		w.insert(o, 2, name, n+1)
	}
	w.wantPage(o, 2, g)
	s := w.seen(o)
	for _, name := range badNames() {
		for _, d := range []int{2, 3} {
			w.wantFind(o, d, name, 0, api.ErrName)
			want(t, "Insert", dir.Insert(o, w.u, p, d, name, 5), api.ErrName)
			want(t, "Set", dir.Set(o, w.u, p, d, name, 5), api.ErrName)
			want(t, "Remove", dir.Remove(o, w.u, p, d, name), api.ErrName)
		}
		if t.Failed() {
			t.Fatalf("%q", name)
		}
	}
	w.wantSeen("calls that were refused", o, s)
	for n, name := range goodNames() {
		g.set(name, n+1000)
		w.set(o, 2, name, n+1000)
	}
	w.wantPage(o, 2, g)
	for _, name := range goodNames() {
		g.remove(name)
		w.remove(o, 2, name)
		w.wantFind(o, 2, name, 0, api.ErrNone)
		w.wantBytes(o, 2, g)
	}
}

// TestInodes: P15.2: a name names any inode from 1 to 65535, also one that the device has not; all others are ErrValue, of Insert and of Set.
func TestInodes(t *testing.T) {
	p := planned(t, 64, 500, 10, 200)
	w, o := founded(t, p, 5)
	w.insert(o, 2, "first", 77)
	g := page{{Inode: 77, Name: "first"}}
	s := w.seen(o)
	for _, i := range slices.Concat(below, []int{0}, above) {
		for _, name := range []string{"first", "other"} {
			want(t, fmt.Sprint("Insert of ", i), dir.Insert(o, w.u, p, 2, name, i), api.ErrValue)
			want(t, fmt.Sprint("Set of ", i), dir.Set(o, w.u, p, 2, name, i), api.ErrValue)
		}
	}
	w.wantSeen("calls that were refused", o, s)
	for n, i := range []int{1, 2, 3, 9, 10, 11, 255, 256, 257, 1023, 1024, 1025, 32767, 32768, 65279, 65280, 65534, 65535} {
		g.insert(p, nameOf(n), i, 999)
		w.insert(o, 2, nameOf(n), i)
		w.wantFind(o, 2, nameOf(n), i, api.OK)
		g.set("first", i)
		w.set(o, 2, "first", i)
		w.wantPage(o, 2, g)
	}
}

// counts answers how many names directories have at which something changes: blocks, ways to them, and what is read at one time.
func counts(p api.Plan) []int {
	per := p.Block / 16
	list := []int{0, 1, 2, per - 1, per, per + 1, 2 * per, 3*per - 1, 7 * per, 8*per - 1, 8 * per, 8*per + 1, 9*per + 1, 255, 256, 257, 511, 512, 513, 700}
	list = slices.DeleteFunc(list, func(n int) bool { return n > 700 })
	slices.Sort(list)
	return slices.Compact(list)
}

// TestGrow: P15.1, P15.2: a directory grows name by name to several blocks and beyond what is read at one time: each name stands behind the others, and is found; at each edge all is held. Then it shrinks name by name, and nothing is left.
func TestGrow(t *testing.T) {
	for _, p := range plans(t) {
		w, o := founded(t, p, 5)
		w.insert(o, 3, "other", 4)
		free := w.free(o)
		all := pageOf(700)
		for n, x := range all {
			if slices.Contains(counts(p), n) {
				w.wantPage(o, 2, all[:n])
				w.wantFind(o, 2, x.Name, 0, api.ErrNone)
				want(t, "Set", dir.Set(o, w.u, p, 2, x.Name, 1), api.ErrNone)
				want(t, "Remove", dir.Remove(o, w.u, p, 2, x.Name), api.ErrNone)
			}
			w.insert(o, 2, x.Name, x.Inode)
			want(t, "Insert", dir.Insert(o, w.u, p, 2, x.Name, 9), api.ErrExists)
			w.wantFind(o, 2, x.Name, x.Inode, api.OK)
			if t.Failed() {
				t.Fatal(p, n)
			}
		}
		w.wantPage(o, 2, all)
		if _, taken := blocks(p, 700); w.free(o) != free-taken {
			t.Errorf("%d blocks were taken, should be %d", free-w.free(o), taken)
		}
		x := dice(p.Block)
		g := slices.Clone(all)
		for len(g) > 0 {
			name := g[x.below(len(g))].Name
			g.remove(name)
			w.remove(o, 2, name)
			w.wantFind(o, 2, name, 0, api.ErrNone)
			if slices.Contains(counts(p), len(g)) {
				w.wantPage(o, 2, g)
			}
			if t.Failed() {
				t.Fatal(p, len(g))
			}
		}
		w.wantBytes(o, 2, nil)
		w.wantPage(o, 3, page{{Inode: 4, Name: "other"}})
		if used := len(w.used(o)); used != 1 {
			t.Errorf("%d blocks are in use, should be 1", used)
		}
	}
}

// places answers places among n names: all of them, if they are few; else those at the edges of blocks and of what is read at one time.
func places(p api.Plan, n int) []int {
	per := p.Block / 16
	var list []int
	for k := range n {
		edge := k%per == 0 || k%per == per-1 || k == n-1 || k == n-2
		if n <= 2*per+2 || edge && (k < 2*per || k >= n-2*per || k > 250 && k < 260 || k > 505) {
			list = append(list, k)
		}
	}
	return list
}

// TestRemovePlaces: P15.3: from every place: the last name stands there, all others stay where they are, and the directory is 16 bytes shorter. A name that is removed is inserted anew behind the others.
func TestRemovePlaces(t *testing.T) {
	for _, p := range plans(t)[:6] {
		for _, n := range counts(p)[1:] {
			w, o := founded(t, p, 5)
			w.lay(o, 2, pageOf(n))
			w.end(o)
			w.settle()
			for _, k := range places(p, n) {
				o := w.begin()
				g := pageOf(n)
				x := g[k]
				g.remove(x.Name)
				w.remove(o, 2, x.Name)
				w.wantBytes(o, 2, g)
				w.wantFind(o, 2, x.Name, 0, api.ErrNone)
				want(t, "Remove", dir.Remove(o, w.u, p, 2, x.Name), api.ErrNone)
				w.wantList(o, 2, g.sorted())
				g.insert(p, x.Name, 4321, 999)
				w.insert(o, 2, x.Name, 4321)
				w.wantBytes(o, 2, g)
				w.abort(o)
				if t.Failed() {
					t.Fatalf("%v: %d names, place %d", p, n, k)
				}
			}
		}
	}
}

// TestSetPlaces: P15.2: at every place: the name names another inode, and no other byte changes; no block is taken, and none is written but that one.
func TestSetPlaces(t *testing.T) {
	for _, p := range plans(t)[:6] {
		for _, n := range counts(p)[1:] {
			w, o := founded(t, p, 5)
			w.lay(o, 2, pageOf(n))
			w.end(o)
			w.settle()
			o = w.begin()
			data, _ := w.blocks(o, 2)
			used := w.used(o)
			w.abort(o)
			for _, k := range places(p, n) {
				o := w.begin()
				g := pageOf(n)
				g[k].Inode = 65535 - g[k].Inode%1000
				w.set(o, 2, g[k].Name, g[k].Inode)
				w.wantBytes(o, 2, g)
				w.wantFind(o, 2, g[k].Name, g[k].Inode, api.OK)
				if now := w.used(o); !slices.Equal(now, used) {
					t.Errorf("%v are in use, should be %v", now, used)
				}
				w.end(o)
				if got := w.g.Blocks(); !slices.Equal(got, []int{data[k*16/p.Block]}) {
					t.Errorf("the group has %v, should have %d", got, data[k*16/p.Block])
				}
				o = w.begin()
				g[k].Inode = pageOf(n)[k].Inode
				w.set(o, 2, g[k].Name, g[k].Inode)
				w.end(o)
				w.settle()
				if t.Failed() {
					t.Fatalf("%v: %d names, place %d", p, n, k)
				}
			}
		}
	}
}

// TestSetAgain: P15.1, P15.2: Find answers what was inserted or set last, be it the same as ahead of it.
func TestSetAgain(t *testing.T) {
	p := planned(t, 64, 500, 10, 200)
	w, o := founded(t, p, 2)
	w.insert(o, 2, "a", 5)
	for _, i := range []int{5, 6, 5, 65535, 1, 1} {
		w.set(o, 2, "a", i)
		w.wantFind(o, 2, "a", i, api.OK)
	}
	w.remove(o, 2, "a")
	want(t, "Set", dir.Set(o, w.u, p, 2, "a", 5), api.ErrNone)
	w.wantFind(o, 2, "a", 0, api.ErrNone)
	w.insert(o, 2, "a", 9)
	w.wantFind(o, 2, "a", 9, api.OK)
}

// TestOrder: P15.1: List is by the names' bytes, rising, in whatever order they were inserted.
func TestOrder(t *testing.T) {
	sorted := []string{"-", "--", "-.", ".-", "...", "0", "00", "1", "10", "2", "9", "_", "a", "a-", "a.", "a0", "a_", "aa", "ab", "b", "z", "zz"}
	p := planned(t, 64, 500, 10, 200)
	x := dice(3)
	for range 30 {
		w, o := founded(t, p, 3)
		var wanted page
		for n, name := range sorted {
			wanted = append(wanted, api.Dirent{Inode: n + 1, Name: name})
		}
		left := slices.Clone(wanted)
		for len(left) > 0 {
			k := x.below(len(left))
			w.insert(o, 2, left[k].Name, left[k].Inode)
			left = slices.Delete(left, k, k+1)
		}
		w.wantList(o, 2, wanted)
	}
}

// TestNothing: P15.1: a directory that is new has no names and no blocks, and asking for some changes nothing.
func TestNothing(t *testing.T) {
	for _, p := range plans(t) {
		w, o := founded(t, p, 3)
		w.end(o)
		w.settle()
		o = w.begin()
		w.wantPage(o, 2, nil)
		want(t, "Set", dir.Set(o, w.u, p, 2, "a", 4), api.ErrNone)
		want(t, "Remove", dir.Remove(o, w.u, p, 2, "a"), api.ErrNone)
		w.wantPage(o, 2, nil)
		w.wantNothing("calls on a directory without names", o)
	}
}

// TestAsking: P15.1: Find and List change nothing and take no block; what List answers is new memory, the room behind it too.
func TestAsking(t *testing.T) {
	for _, p := range plans(t)[:5] {
		w, o := founded(t, p, 3)
		g := pageOf(300)
		w.lay(o, 2, g)
		w.end(o)
		w.settle()
		o = w.begin()
		s := w.seen(o)
		for _, x := range g[:40] {
			w.wantFind(o, 2, x.Name, x.Inode, api.OK)
			once, e := dir.List(o, w.u, p, 2)
			want(t, "List", e, api.OK)
			twice, _ := dir.List(o, w.u, p, 2)
			once = once[:cap(once)]
			for k := range once {
				once[k] = api.Dirent{Inode: 7, Name: "changed"}
			}
			if !slices.Equal(twice, g.sorted()) {
				t.Fatal("two answers of List share memory")
			}
			w.wantList(o, 2, g.sorted())
		}
		w.wantSeen("Find and List", o, s)
		w.wantNothing("Find and List", o)
	}
}

// TestRefusedNothing: R6: calls on a sound directory that are refused have noted nothing.
func TestRefusedNothing(t *testing.T) {
	p := planned(t, 64, 500, 10, 200)
	w, o := founded(t, p, 3)
	w.lay(o, 2, pageOf(50))
	w.end(o)
	w.settle()
	o = w.begin()
	s := w.seen(o)
	for k := range 50 {
		want(t, "Insert", dir.Insert(o, w.u, p, 2, nameOf(k), 9), api.ErrExists)
		want(t, "Set", dir.Set(o, w.u, p, 2, nameOf(k+50), 9), api.ErrNone)
		want(t, "Remove", dir.Remove(o, w.u, p, 2, nameOf(k+50)), api.ErrNone)
	}
	w.wantSeen("calls that were refused", o, s)
	w.wantNothing("calls that were refused", o)
}

// TestLogged: the blocks of a directory go through the log, and not past it; and nothing is written but what a call changes.
func TestLogged(t *testing.T) {
	for _, p := range plans(t)[:6] {
		for _, n := range []int{0, 1, p.Block/16 - 1, p.Block / 16, 3 * p.Block / 16, 9*p.Block/16 - 1, 300} {
			w, o := founded(t, p, 3)
			w.lay(o, 2, pageOf(n))
			w.end(o)
			w.settle()
			for _, c := range []struct {
				name string
				run  func()
			}{
				{"Insert", func() { w.insert(o, 2, "new", 4) }},
				{"Set", func() { w.set(o, 2, "new", 5) }},
				{"Remove", func() { w.remove(o, 2, "new") }},
			} {
				o = w.begin()
				before := w.seen(o)
				c.run()
				changed := before.differs(w.seen(o))
				data, pointers := w.blocks(o, 2)
				w.end(o)
				got := w.g.Blocks()
				if d := w.c.Dirty(); len(d) != 0 {
					t.Errorf("%s: %v went past the log", c.name, d)
				}
				for _, b := range changed {
					if !slices.Contains(got, b) && !w.g.Kept(b) {
						t.Errorf("%s: %d has changed, the group has %v", c.name, b, got)
					}
				}
				for _, b := range got {
					if b >= p.Data && !slices.Contains(data, b) && !slices.Contains(pointers, b) {
						t.Errorf("%s: the group has %d", c.name, b)
					}
				}
				w.settle()
			}
			if t.Failed() {
				t.Fatal(p, n)
			}
		}
	}
}

// TestCommitted: what was inserted, set and removed is there behind End, Commit, Settle and a new start; what was given up is not.
func TestCommitted(t *testing.T) {
	for _, p := range plans(t)[:5] {
		w, o := founded(t, p, 3)
		g := pageOf(40)
		for _, x := range g {
			w.insert(o, 2, x.Name, x.Inode)
		}
		w.end(o)
		o = w.begin()
		for _, x := range g[:20] {
			w.remove(o, 2, x.Name)
		}
		w.insert(o, 2, "given-up", 3)
		w.set(o, 2, g[30].Name, 999)
		w.abort(o)
		for _, then := range []func(){func() {}, w.commit, w.settle, func() { w = mounted(t, w.d, p, 2) }} {
			then()
			o = w.begin()
			w.wantPage(o, 2, g)
			name := g[7].Name
			g.remove(name)
			w.remove(o, 2, name)
			g.set(g[3].Name, 55)
			w.set(o, 2, g[3].Name, 55)
			w.wantPage(o, 2, g)
			w.end(o)
			w.commit()
		}
	}
}

// TestApart: R5: names of one directory are none of another's, nor does a file change.
func TestApart(t *testing.T) {
	p := planned(t, 64, 500, 10, 200)
	w, o := founded(t, p, 3)
	w.write(o, 1, 30, []byte("some text"))
	text := w.all(o, 1)
	var g, h page
	for n := range 60 {
		g.insert(p, nameOf(n), n+1, 999)
		w.insert(o, 2, nameOf(n), n+1)
		h.insert(p, nameOf(n), 2*n+1, 999)
		w.insert(o, 3, nameOf(n), 2*n+1)
	}
	for n := range 60 {
		if n%3 == 0 {
			g.remove(nameOf(n))
			w.remove(o, 2, nameOf(n))
		} else {
			h.set(nameOf(n), 5000)
			w.set(o, 3, nameOf(n), 5000)
		}
	}
	w.wantPage(o, 2, g)
	w.wantPage(o, 3, h)
	if now := w.all(o, 1); !bytes.Equal(now, text) {
		t.Errorf("%q", now)
	}
	// An inode that is a directory's name may be the directory itself.
	w.insert(o, 2, "self", 2)
	w.wantFind(o, 2, "self", 2, api.OK)
}

// TestAnyDirectory: directories stand in any inode, the first one and the last one too.
func TestAnyDirectory(t *testing.T) {
	for _, p := range plans(t) {
		w := formatted(t, p, 3)
		o := w.begin()
		var g page
		for _, d := range []int{0, 1, p.Inodes - 1} {
			w.born(o, d, api.KindDir)
		}
		for n := range 30 {
			g.insert(p, nameOf(n), n+1, 999)
			for _, d := range []int{0, 1, p.Inodes - 1} {
				w.insert(o, d, nameOf(n), n+1)
			}
		}
		g.remove(nameOf(3))
		for _, d := range []int{0, 1, p.Inodes - 1} {
			w.remove(o, d, nameOf(3))
			w.wantPage(o, d, g)
		}
	}
}

// TestBehindSize: what stands in a directory's last block behind its end, or in blocks behind that, is none of it, and never will be.
func TestBehindSize(t *testing.T) {
	for _, p := range plans(t)[:5] {
		per := p.Block / 16
		for _, n := range []int{1, per - 1, per, per + 1, 3*per + 1} {
			w, o := founded(t, p, 3)
			g := pageOf(n)
			w.lay(o, 2, pageOf(n+2*per))
			x := w.get(o, 2)
			x.Size = 16 * n
			w.put(o, 2, x)
			w.wantList(o, 2, g.sorted())
			w.wantFind(o, 2, nameOf(n), 0, api.ErrNone)
			for k := range 3 * per {
				name := fmt.Sprint("new-", k)
				g.insert(p, name, k+1, 999)
				w.insert(o, 2, name, k+1)
				w.wantList(o, 2, g.sorted())
			}
			// A Truncate gives back what stands behind.
			name := g[0].Name
			g.remove(name)
			w.remove(o, 2, name)
			w.wantPage(o, 2, g)
		}
	}
}

// TestKeepsNothing: R4, R5: two ways to write the same names are the same: a name is its bytes, whatever memory it is in.
func TestKeepsNothing(t *testing.T) {
	p := planned(t, 64, 500, 10, 200)
	w, o := founded(t, p, 3)
	raw := []byte("abcdefgh")
	w.insert(o, 2, string(raw[:3]), 3)
	w.insert(o, 2, string(raw[3:]), 4)
	clear(raw)
	w.wantPage(o, 2, page{{Inode: 3, Name: "abc"}, {Inode: 4, Name: "defgh"}})
	if data, e := file.Read(o, w.u, p, 2, 16, 16); e != api.OK {
		t.Error(e)
	} else if x, e := codec.Undirent(data); x != (api.Dirent{Inode: 4, Name: "defgh"}) || e != api.OK {
		t.Error(x, e)
	}
}
