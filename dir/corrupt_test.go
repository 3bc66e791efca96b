package dir_test

import (
	"bytes"
	"fmt"
	"math"
	"slices"
	"testing"

	"skerry/api"
	"skerry/dir"
	"skerry/group"
)

// wantCorrupt holds that all calls on directory 2 are ErrCorrupt, and change nothing.
func (w *world) wantCorrupt(o *group.Op, names ...string) {
	w.t.Helper()
	s := w.seen(o)
	for _, c := range calls(2, append(names, "new")...) {
		want(w.t, fmt.Sprint(c), c.run(w.t, o, w.u, w.p), api.ErrCorrupt)
	}
	w.wantSeen("calls on a directory that is unsound", o, s)
}

// TestOddSizes: Size that is no multiple of 16 is ErrCorrupt, whatever bytes there are, also where there are none, and where it is greater than any file's.
func TestOddSizes(t *testing.T) {
	for _, p := range plans(t)[:4] {
		for _, n := range []int{0, 1, 4, 5, 40} {
			w, o := founded(t, p, 3)
			w.lay(o, 2, pageOf(n))
			x := w.get(o, 2)
			sizes := []int{4095, 4097}
			if n == 1 {
				sizes = append(sizes, most(p)-1, most(p)+1, most(p)+17, math.MaxInt32, math.MaxUint32, math.MaxUint32-14)
			}
			for size := range 200 {
				if size%16 != 0 && (size < 70 || size%16%7 == 1) {
					sizes = append(sizes, size)
				}
			}
			for _, size := range sizes {
				x.Size = size
				w.put(o, 2, x)
				for _, c := range calls(2, nameOf(0), "new") {
					want(t, fmt.Sprint(c, " of size ", size), c.run(t, o, w.u, p), api.ErrCorrupt)
				}
			}
			x.Size = 16*n + 15
			w.put(o, 2, x)
			w.wantCorrupt(o, nameOf(0))
			x.Size = 16 * n
			w.put(o, 2, x)
			w.wantPage(o, 2, pageOf(n))
			if t.Failed() {
				t.Fatal(p, n)
			}
		}
	}
}

// TestGreatSizes: a Size that is a multiple of 16 and greater than any file's: where there are holes, their bytes are no names; where all bytes that a file may have are names, the table's ErrRange comes for those behind them.
func TestGreatSizes(t *testing.T) {
	p := planned(t, 64, 1500, 5, 200)
	for _, size := range []int{most(p) + 16, most(p) + 64, 1 << 20, math.MaxInt32 - 15, math.MaxUint32 - 15} {
		w, o := founded(t, p, 3)
		w.lay(o, 2, pageOf(30))
		x := w.get(o, 2)
		x.Size = size
		w.put(o, 2, x)
		w.wantCorrupt(o, nameOf(0), nameOf(29))
	}
	w, o := founded(t, p, 3)
	g := pageOf(most(p) / 16)
	w.lay(o, 2, g)
	w.wantFind(o, 2, g[len(g)-1].Name, g[len(g)-1].Inode, api.OK)
	x := w.get(o, 2)
	x.Size += 16
	w.put(o, 2, x)
	s := w.seen(o)
	for _, c := range calls(2, nameOf(0), "new") {
		want(t, fmt.Sprint(c), c.run(t, o, w.u, p), api.ErrRange)
	}
	w.wantSeen("calls on a directory that is too great", o, s)
	x.Size++
	w.put(o, 2, x)
	w.wantCorrupt(o, nameOf(0))
}

// broken answers 16 bytes that are no name, each for a reason of its own, and all that are one byte away from a name with no room for another one.
func broken() [][]byte {
	lay := func(inode int, name string, last byte) []byte {
		b := make([]byte, 16)
		b[0], b[1], b[15] = byte(inode), byte(inode>>8), last
		copy(b[2:15], name)
		return b
	}
	list := [][]byte{
		make([]byte, 16), bytes.Repeat([]byte{255}, 16), bytes.Repeat([]byte{'a'}, 16),
		lay(0, "a", 0), lay(0, "", 1), lay(0, "abcdefghijklm", 0), lay(5, "", 0), lay(65535, "", 0), lay(5, "", 1), lay(256, "", 'a'),
		lay(5, ".", 0), lay(5, "..", 0), lay(5, "A", 0), lay(5, "a/b", 0), lay(5, "a b", 0), lay(5, "\x80", 0), lay(5, "abcdefghijklM", 0), lay(5, "\xc3\xa4", 0),
		lay(5, "a", 1), lay(5, "a", 'a'), lay(5, "abcdefghijklm", 'n'), lay(5, "abcdefghijklm", 255),
		lay(5, "a\x00b", 0), lay(5, "\x00a", 0), lay(5, "abcdefghijk\x00m", 0), lay(256, "\x00\x00\x00\x00\x00\x00\x00\x00\x00\x00\x00\x00a", 0), lay(5, "..\x00a", 0),
	}
	return list
}

// TestNoNames: 16 bytes that are no name are ErrCorrupt, whatever is asked, wherever they stand: first, last, at the edges of blocks and of what is read at one time, ahead of what is sought and behind it.
func TestNoNames(t *testing.T) {
	for _, p := range plans(t)[:4] {
		per := p.Block / 16
		for _, n := range []int{1, 2, per, per + 1, 3*per + 1, 256, 257, 300} {
			w, o := founded(t, p, 3)
			g := pageOf(n)
			w.lay(o, 2, g)
			w.end(o)
			w.settle()
			for _, k := range places(p, n) {
				for m, raw := range broken() {
					if n > 2*per && (m+k)%9 != 0 {
						continue
					}
					o := w.begin()
					w.write(o, 2, 16*k, raw)
					for _, c := range calls(2, g[0].Name, g[n-1].Name, g[k].Name, "new") {
						want(t, fmt.Sprint(c), c.run(t, o, w.u, p), api.ErrCorrupt)
					}
					data := g.bytes()
					copy(data[16*k:], raw)
					if got := w.all(o, 2); !bytes.Equal(got, data) {
						t.Error("a call that was refused changed the directory")
					}
					w.abort(o)
					if t.Failed() {
						t.Fatalf("%v: %d names, %q at %d", p, n, raw, k)
					}
				}
			}
		}
	}
}

// TestNoNameNothing: R6: calls on a directory with 16 bytes that are no name have noted nothing.
func TestNoNameNothing(t *testing.T) {
	p := planned(t, 64, 500, 10, 200)
	for _, k := range []int{0, 3, 4, 29} {
		w, o := founded(t, p, 3)
		w.lay(o, 2, pageOf(30))
		w.write(o, 2, 16*k, make([]byte, 16))
		w.end(o)
		w.settle()
		o = w.begin()
		w.wantCorrupt(o, nameOf(0), nameOf(k), nameOf(29))
		w.wantNothing("calls that were refused", o)
	}
}

// TestHoles: bytes of a hole are 0, so no names: a directory with one, wherever it is, is ErrCorrupt.
func TestHoles(t *testing.T) {
	for _, p := range plans(t)[:4] {
		per := p.Block / 16
		for _, at := range []int{1, 2, 7, 8, 9, 20} {
			w, o := founded(t, p, 3)
			g := pageOf(2 * per)
			w.lay(o, 2, g[:per])
			w.write(o, 2, at*p.Block, g[per:].bytes())
			if at == 1 {
				w.wantList(o, 2, g.sorted())
				continue
			}
			w.wantCorrupt(o, nameOf(0))
			if t.Failed() {
				t.Fatal(p, at)
			}
		}
		for _, size := range []int{16, p.Block, 4096, 4112, most(p)} {
			w, o := founded(t, p, 3)
			w.put(o, 2, api.Inode{Kind: api.KindDir, Links: 1, Size: size})
			w.wantCorrupt(o, nameOf(0))
		}
	}
}

// TestTwice: a directory in which a name stands twice is not sound, but all its bytes are names: the first one counts, for Find, Set and Remove, and List tells it once.
func TestTwice(t *testing.T) {
	p := planned(t, 64, 500, 10, 200)
	w, o := founded(t, p, 3)
	w.lay(o, 2, page{{Inode: 9, Name: "b"}, {Inode: 8, Name: "a"}, {Inode: 3, Name: "b"}, {Inode: 4, Name: "a"}, {Inode: 5, Name: "c"}})
	w.wantFind(o, 2, "a", 8, api.OK)
	w.wantFind(o, 2, "b", 9, api.OK)
	w.wantList(o, 2, page{{Inode: 8, Name: "a"}, {Inode: 9, Name: "b"}, {Inode: 5, Name: "c"}})
	want(t, "Insert", dir.Insert(o, w.u, p, 2, "a", 7), api.ErrExists)
	w.set(o, 2, "b", 7)
	w.wantBytes(o, 2, page{{Inode: 7, Name: "b"}, {Inode: 8, Name: "a"}, {Inode: 3, Name: "b"}, {Inode: 4, Name: "a"}, {Inode: 5, Name: "c"}})
	w.remove(o, 2, "b")
	w.wantBytes(o, 2, page{{Inode: 5, Name: "c"}, {Inode: 8, Name: "a"}, {Inode: 3, Name: "b"}, {Inode: 4, Name: "a"}})
	w.wantFind(o, 2, "b", 3, api.OK)
}

// TestUnsoundPointers: R6: a directory that names blocks which are none is answered the operation's ErrRange, and nothing has changed; that comes ahead of 16 bytes that are no name.
func TestUnsoundPointers(t *testing.T) {
	p := planned(t, 64, 500, 10, 200)
	for _, bad := range []int{p.Blocks, p.Blocks + 1, 65535} {
		for at := range 8 {
			for _, corrupt := range []bool{false, true} {
				w, o := founded(t, p, 3)
				w.lay(o, 2, pageOf(32))
				if corrupt {
					w.write(o, 2, 0, make([]byte, 16))
				}
				x := w.get(o, 2)
				x.Direct[at] = bad
				w.put(o, 2, x)
				s := w.seen(o)
				for _, c := range calls(2, nameOf(0), nameOf(31), "new") {
					want(t, fmt.Sprint(c), c.run(t, o, w.u, p), api.ErrRange)
				}
				w.wantSeen("calls that were refused", o, s)
			}
		}
	}
}

// TestForeignBlocks: R6: a directory whose bytes are those of a block that no operation may write is read, but what would change it is ErrRange, and nothing has changed.
func TestForeignBlocks(t *testing.T) {
	p := planned(t, 64, 500, 10, 200)
	for _, at := range []int{0, 1, 2} {
		w, o := founded(t, p, 3)
		w.lay(o, 2, pageOf(12))
		x := w.get(o, 2)
		x.Direct[at] = p.LogAt + 3
		w.put(o, 2, x)
		w.end(o)
		w.settle()
		want(t, "Load", w.d.Load(p.LogAt+3, pageOf(12).bytes()[64*at:][:64]), api.OK)
		w = mounted(t, w.d, p, 3)
		o = w.begin()
		s := w.seen(o)
		g := pageOf(12)
		w.wantList(o, 2, g.sorted())
		for k, y := range g {
			w.wantFind(o, 2, y.Name, y.Inode, api.OK)
			if k/4 == at {
				want(t, "Set", dir.Set(o, w.u, p, 2, y.Name, 3), api.ErrRange)
			}
			if k/4 == at || at == 2 {
				want(t, "Remove", dir.Remove(o, w.u, p, 2, y.Name), api.ErrRange)
			}
		}
		w.wantSeen("calls that were refused", o, s)
		w.wantNothing("calls that were refused", o)
	}
}

// TestUnmarked: R6: where the last block of a directory is marked as free, it can't be freed: the table's ErrNone is answered, and the name that was to be removed is there still.
func TestUnmarked(t *testing.T) {
	for _, p := range plans(t)[:4] {
		per := p.Block / 16
		for _, blocks := range []int{1, 2, 9, 10} {
			w, o := founded(t, p, 3)
			g := pageOf((blocks-1)*per + 1)
			w.lay(o, 2, g)
			data, _ := w.blocks(o, 2)
			last := data[len(data)-1]
			at, bit := p.BBits+last/(8*p.Block), last%(8*p.Block)
			marks, e := o.Read(at)
			want(t, "Read", e, api.OK)
			marks[bit/8] &^= 1 << (bit % 8)
			want(t, "Write", o.Write(at, marks), api.OK)
			w.end(o)
			w.settle()
			o = w.begin()
			s := w.seen(o)
			for _, x := range []api.Dirent{g[0], g[len(g)/2], g[len(g)-1]} {
				want(t, "Remove", dir.Remove(o, w.u, p, 2, x.Name), api.ErrNone)
				w.wantFind(o, 2, x.Name, x.Inode, api.OK)
			}
			w.wantPage(o, 2, g)
			w.wantSeen("a Remove that was refused", o, s)
			w.wantNothing("a Remove that was refused", o)
			if t.Failed() {
				t.Fatal(p, blocks)
			}
		}
	}
}

// TestAnyBytes: R1, R6: whatever stands on a device, calls answer something, without a panic; what is refused has changed nothing in the directory; what Find and List answer, they answer again.
func TestAnyBytes(t *testing.T) {
	x := dice(77)
	told := map[api.Errno]int{}
	for round := range 60 {
		n := [][4]int{{64, 60, 9, 8}, {64, 100, 10, 30}, {128, 60, 30, 6}, {256, 40, 5, 4}, {64, 600, 20, 40}}[round%5]
		p := planned(t, n[0], n[1], n[2], n[3])
		w := formatted(t, p, 1+x.below(9))
		for b := p.IBits; b < p.Blocks; b++ {
			want(t, "Load", w.d.Load(b, anyBlock(p, &x, b)), api.OK)
		}
		w = mounted(t, w.d, p, 1+x.below(9), x.picks(40)...)
		o := w.begin()
		for range 60 {
			d, name := x.below(p.Inodes), nameOf(x.below(200))
			first, e := dir.List(o, w.u, p, d)
			again, f := dir.List(o, w.u, p, d)
			if !slices.Equal(first, again) || e != f {
				t.Errorf("List: %v, %d, then %v, %d", first, e, again, f)
			}
			told[e]++
			i, e := dir.Find(o, w.u, p, d, name)
			j, f := dir.Find(o, w.u, p, d, name)
			if i != j || e != f {
				t.Errorf("Find: %d, %d, then %d, %d", i, e, j, f)
			}
			for _, c := range []call{{"Insert", d, name, 5}, {"Set", d, name, 6}, {"Remove", d, nameOf(x.below(200)), 0}} {
				before, f := dir.List(o, w.u, p, d)
				if c.run(t, o, w.u, p) == api.OK {
					continue
				}
				if now, e := dir.List(o, w.u, p, d); !slices.Equal(now, before) || e != f {
					t.Errorf("%v: %v, %d, was %v, %d", c, now, e, before, f)
				}
			}
		}
	}
	for _, e := range []api.Errno{api.OK, api.ErrRange, api.ErrCorrupt, api.ErrNotDir} {
		if told[e] == 0 {
			t.Errorf("no List answered %d: %v", e, told)
		}
	}
}

// anyBlock answers a block of chance: of the table with inodes that can be read, of others with names, most of them.
func anyBlock(p api.Plan, x *dice, b int) []byte {
	data := make([]byte, p.Block)
	if b >= p.Data && x.below(8) != 0 {
		start := x.below(300)
		copy(data, pageOf(start + p.Block/16)[start:].bytes())
		return data
	}
	table := b >= p.Table && b < p.Data
	for i := range data {
		switch x.below(4) {
		case 0:
			data[i] = byte(x.below(256))
		case 1:
			data[i] = byte(x.below(p.Blocks))
		}
		switch {
		case i%2 == 1 && x.below(9) != 0:
			data[i] = byte(x.below(p.Blocks/256 + 1))
		case table && i%32 == 0:
			data[i] = byte(1 + min(1, x.below(5)))
		}
		switch {
		case table && (i%32 == 1 || i%32 >= 28 || i%32 >= 6 && i%32 <= 7):
			data[i] = 0
		case table && i%32 == 4 && x.below(6) != 0:
			data[i] = byte(16 * x.below(9))
		case table && i%32 == 5:
			data[i] = byte(x.below(2) * x.below(3))
		}
	}
	return data
}
