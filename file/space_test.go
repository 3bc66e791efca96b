package file_test

import (
	"bytes"
	"fmt"
	"slices"
	"testing"

	"skerry/api"
	"skerry/file"
	"skerry/group"
)

// span is n bytes at at.
type span struct{ at, n int }

// spans answers writes that ask for one block and for many, with pointers on their ways and without.
func spans(p api.Plan) []span {
	per, b := p.Block/2, p.Block
	list := []span{
		{0, 1}, {b - 1, 2}, {5, min(4096, 3*b)}, {7 * b, min(4096, 2*b)}, {8 * b, 1}, {9*b - 1, 2},
		{(8+per)*b - 1, 2}, {(8 + per) * b, 1}, {(8 + per) * b, min(4096, 2*b)}, {(8+2*per)*b - 1, 2}, {(8+3*per)*b - 5, min(4096, 3*b)}, {most(p) - 1, 1}, {most(p) - min(4096, 2*b), min(4096, 2*b)},
	}
	return slices.DeleteFunc(list, func(s span) bool { return s.at+s.n > most(p) })
}

// base lays files of several shapes: nothing, a first block, some with holes, blocks with pointers that have room.
func base(w *world, o *group.Op, i, shape int) *sheet {
	w.t.Helper()
	s := newSheet(w.get(o, i).Kind)
	b, per := w.p.Block, w.p.Block/2
	for which, at := range [][]int{{}, {3}, {0, 2 * b, 10 * b}, {20 * b, (8 + per + 3) * b}}[shape] {
		s.write(w.p, at, text(5, which), 9999)
		w.write(o, i, at, text(5, which))
	}
	return s
}

// TestNoSpace: P14.2, with R6: of a write that asks for more blocks than can be taken, be it by one alone, ErrNoSpace is answered, and nothing has changed: no byte, no Size, no block is taken. Where all can be taken, it is done.
func TestNoSpace(t *testing.T) {
	for _, p := range plans(t)[:3] {
		for _, i := range []int{1, 2} {
			for shape := range 4 {
				w, o := pair(t, p)
				file := base(w, o, i, shape)
				w.leave(o, 12)
				w.end(o)
				w.settle()
				for _, x := range spans(p) {
					for left := range 8 {
						w.noSpace(i, file, x, left)
						if t.Failed() {
							t.Fatalf("%v: inode %d, shape %d, %v, %d left", p, i, shape, x, left)
						}
					}
				}
			}
		}
	}
}

// noSpace writes where just so many blocks can be taken.
func (w *world) noSpace(i int, was *sheet, x span, left int) {
	w.t.Helper()
	o := w.begin()
	w.leave(o, left)
	blocks, before := w.seen(o), w.used(o)
	s := was.clone()
	data := text(x.n, 9)
	taken, wanted := s.write(w.p, x.at, data, left)
	want(w.t, "Write", file.Write(o, w.u, w.p, i, x.at, data), wanted)
	w.wantSheet(o, i, s)
	if now := w.free(o); now != left-taken {
		w.t.Errorf("%d blocks can be taken, should be %d", now, left-taken)
	}
	if now := w.used(o); len(now) != len(before)+taken {
		w.t.Errorf("%d blocks are in use, should be %d", len(now), len(before)+taken)
	}
	if wanted == api.ErrNoSpace {
		w.wantSeen("a Write without space", o, blocks)
	}
	w.abort(o)
}

// TestNoSpaceNothing: R6: a write for which there is no space has noted nothing: behind the operation's End the group has no block, and no block is dirty.
func TestNoSpaceNothing(t *testing.T) {
	for _, p := range plans(t)[:3] {
		for _, i := range []int{1, 2} {
			for left := range 4 {
				w, o := pair(t, p)
				base(w, o, i, 1)
				w.leave(o, left)
				w.end(o)
				w.settle()
				o = w.begin()
				refused := 0
				for _, x := range spans(p) {
					if lacks := len(base0(w, i).lacks(p, x.at, x.n)); lacks > left {
						want(t, "Write", file.Write(o, w.u, p, i, x.at, text(x.n, 1)), api.ErrNoSpace)
						refused++
					}
				}
				if refused == 0 {
					t.Error("nothing was refused")
				}
				w.wantNothing("a Write without space", o, nil, nil)
			}
		}
	}
}

// base0 answers the sheet of base's shape 1 without doing anything.
func base0(w *world, i int) *sheet {
	s := newSheet(i)
	s.write(w.p, 3, text(5, 0), 9999)
	return s
}

// keeps are ways to let blocks be kept that are not in use: freed by the open operation, by one that has ended, and pending in the log still.
var keeps = []string{"open", "ended", "pending"}

// keeping answers a world and an operation in which just so many blocks can be taken, and five more are not in use but kept. Inode 3 is what had them; inode 0 is in use, if taken.
func keeping(t *testing.T, p api.Plan, how string, left int, taken bool) (*world, *group.Op) {
	t.Helper()
	w, o := pair(t, p)
	if taken {
		w.born(o, 0, api.KindFile)
	}
	w.born(o, 3, api.KindDir)
	w.write(o, 3, 0, text(5*p.Block, 1))
	w.leave(o, left)
	w.end(o)
	if how == "pending" {
		// Blocks of a directory that have been in the log since.
		w.commit()
	} else {
		w.settle()
	}
	o = w.begin()
	w.truncate(o, 3, 0)
	if how == "open" {
		return w, o
	}
	w.end(o)
	if how == "pending" {
		w.commit()
	}
	return w, w.begin()
}

// TestNoSpaceKept: P14.2, with R6: blocks that are not in use, but kept, are no space; where they are not enough for all that a write asks for, nothing is taken of the others either, and a write that asks for just as many is done.
func TestNoSpaceKept(t *testing.T) {
	p := planned(t, 64, 100, 10, 40)
	told := map[api.Errno]int{}
	for _, how := range keeps {
		for _, taken := range []bool{false, true} {
			for left := range 7 {
				for _, x := range spans(p) {
					for _, i := range []int{1, 2} {
						w, o := keeping(t, p, how, left, taken)
						if free, used := w.free(o), len(w.used(o)); free != left || used != p.Blocks-p.Data-left-5 {
							t.Fatalf("%s: %d can be taken, %d are in use", how, free, used)
						}
						s := w.seen(o)
						file1 := newSheet(i)
						_, wanted := file1.write(p, x.at, text(x.n, 1), left)
						e := file.Write(o, w.u, p, i, x.at, text(x.n, 1))
						want(t, "Write", e, wanted)
						told[e]++
						w.wantSheet(o, i, file1)
						if wanted == api.ErrNoSpace {
							w.wantSeen("a Write without space", o, s)
							// All that was left can be had.
							for n := range left {
								w.write(o, i, n*p.Block, []byte("x"))
							}
							want(t, "Write", file.Write(o, w.u, p, i, left*p.Block, []byte("x")), api.ErrNoSpace)
						}
						if t.Failed() {
							t.Fatalf("kept %s, inode 0 in use %v, %d left, %v, inode %d", how, taken, left, x, i)
						}
					}
				}
			}
		}
	}
	if told[api.OK] < 50 || told[api.ErrNoSpace] < 50 {
		t.Error("too few of each kind:", told)
	}
}

// TestNoSpaceKeptBlocks: R6: where blocks are kept since they were freed in this operation or in the group, whose blocks the bitmap is among, a write without space adds none to what the operation writes.
func TestNoSpaceKeptBlocks(t *testing.T) {
	p := planned(t, 64, 100, 10, 40)
	for _, how := range keeps[:2] {
		for left := range 4 {
			for _, x := range spans(p) {
				blocks := func(call bool) []int {
					w, o := keeping(t, p, how, left, false)
					if call && file.Write(o, w.u, p, 1, x.at, text(x.n, 1)) != api.ErrNoSpace {
						return nil
					}
					w.end(o)
					return w.g.Blocks()
				}
				if got, wanted := blocks(true), blocks(false); got != nil && !slices.Equal(got, wanted) {
					t.Errorf("kept %s, %d left, %v: the group has %v, should have %v", how, left, x, got, wanted)
				}
			}
		}
	}
}

// TestFill: P14.2: files are written till there is no space, as full as a device can be; behind a Truncate and a Commit all of it can be written anew.
func TestFill(t *testing.T) {
	for _, p := range plans(t) {
		w, o := pair(t, p)
		w.end(o)
		w.settle()
		for round := range 3 {
			s := newSheet(api.KindFile)
			for at := 0; ; at += 4096 {
				o := w.begin()
				left := w.free(o)
				n := min(4096, most(p)-at)
				_, wanted := s.write(p, at, text(n, at+round), left)
				e := file.Write(o, w.u, p, 1, at, text(n, at+round))
				want(t, "Write", e, wanted)
				// Less of it may have room.
				for n > 1 && e == api.ErrNoSpace {
					n /= 2
					_, wanted = s.write(p, at, text(n, at+round), left)
					e = file.Write(o, w.u, p, 1, at, text(n, at+round))
					want(t, "Write", e, wanted)
				}
				w.end(o)
				if e != api.OK || n < 4096 || t.Failed() {
					break
				}
			}
			o := w.begin()
			w.wantSheet(o, 1, s)
			if round == 0 && len(s.bytes) < most(p) && w.free(o) > 0 {
				want(t, "Write", file.Write(o, w.u, p, 1, len(s.bytes), text(4096, 1)), api.ErrNoSpace)
			}
			w.truncate(o, 1, 0)
			w.end(o)
			w.settle()
			if t.Failed() {
				t.Fatal(p, round)
			}
		}
	}
}

// TestOverNoSpace: P14.2: where there is no space at all, what needs none is done still: bytes over others, and Truncate.
func TestOverNoSpace(t *testing.T) {
	for _, p := range plans(t)[:5] {
		for _, i := range []int{1, 2} {
			w, o := pair(t, p)
			data := text(min(4096, 3*p.Block), 1)
			w.write(o, i, 7*p.Block, data)
			w.leave(o, 0)
			wanted := append(make([]byte, 7*p.Block), data...)
			w.write(o, i, 7*p.Block+3, text(p.Block, 2))
			copy(wanted[7*p.Block+3:], text(p.Block, 2))
			w.wantAll(o, i, wanted)
			want(t, "Write", file.Write(o, w.u, p, i, 7*p.Block-1, text(2, 3)), api.ErrNoSpace)
			want(t, "Write", file.Write(o, w.u, p, i, 12*p.Block, text(1, 3)), api.ErrNoSpace)
			w.wantAll(o, i, wanted)
			w.truncate(o, i, 11*p.Block)
			w.wantRead(o, i, 8*p.Block, 4096, append(wanted, make([]byte, 4096)...)[8*p.Block:min(8*p.Block+4096, 11*p.Block)])
			w.truncate(o, i, 5)
			w.wantAll(o, i, make([]byte, 5))
			if t.Failed() {
				t.Fatal(p, i)
			}
		}
	}
}

// deadCall is a call on a file that is there, and what the file is behind it.
type deadCall struct {
	name string
	run  func(w *world, o *group.Op) ([]byte, api.Errno)
	then func(s *sheet) []byte
}

// deadCalls answers calls of each kind on inode 1, within the file and behind it, by each kind of way.
func deadCalls(p api.Plan) []deadCall {
	var list []deadCall
	add := func(name string, run func(w *world, o *group.Op) ([]byte, api.Errno), then func(s *sheet) []byte) {
		list = append(list, deadCall{name, run, then})
	}
	nothing := func(*sheet) []byte { return nil }
	for _, x := range []span{{0, 10}, {60, 10}, {64, 64}, {300, 300}, {520, 200}, {40 * 64, 100}, {40*64 - 4, 10}, {75 * 64, 5}, {30 * 64, 64}, {0, 4096}, {200 * 64, 3}} {
		add(fmt.Sprint("Read ", x), func(w *world, o *group.Op) ([]byte, api.Errno) {
			return file.Read(o, w.u, p, 1, x.at, x.n)
		}, func(s *sheet) []byte {
			data, _ := s.read(x.at, x.n)
			return data
		})
		add(fmt.Sprint("Write ", x), func(w *world, o *group.Op) ([]byte, api.Errno) {
			return nil, file.Write(o, w.u, p, 1, x.at, text(x.n, 7))
		}, func(s *sheet) []byte {
			s.write(p, x.at, text(x.n, 7), 9999)
			return nil
		})
	}
	for _, size := range []int{0, 5, 64, 70, 530, 41 * 64, 76 * 64, 77 * 64, 300*64 + 1} {
		add(fmt.Sprint("Truncate ", size), func(w *world, o *group.Op) ([]byte, api.Errno) {
			return nil, file.Truncate(o, w.u, p, 1, size)
		}, func(s *sheet) []byte {
			s.truncate(p, size)
			return nil
		})
	}
	add("Dirty", func(w *world, o *group.Op) ([]byte, api.Errno) {
		_, e := file.Dirty(o, w.u, 1)
		return nil, e
	}, nothing)
	return list
}

// tall answers a device with a file, inode 1, that has blocks by each kind of way, and holes; its sheet.
func tall(t *testing.T, p api.Plan) (*world, *sheet) {
	t.Helper()
	w, o := pair(t, p)
	s := newSheet(api.KindFile)
	for _, x := range []span{{0, 100}, {300, 10}, {500, 100}, {38 * 64, 50}, {40*64 + 7, 200}, {76*64 + 7, 30}} {
		s.write(p, x.at, text(x.n, 1), 9999)
		w.write(o, 1, x.at, text(x.n, 1))
	}
	w.end(o)
	w.settle()
	return w, s
}

// inUse answers what an operation sees but for the bytes of blocks that are free: these are nobody's.
func (w *world) inUse(o *group.Op) sight {
	s := w.seen(o)
	used := w.used(o)
	for b := w.p.Data; b < w.p.Blocks; b++ {
		if !slices.Contains(used, b) {
			s.blocks[b] = nil
		}
	}
	return s
}

// TestDead: the error of the first call of the table or the operation that answers one is the answer, wherever it comes: of a device that has died, where only some blocks can be read still, a call is done, and rightly, or it is ErrDead, and nothing has changed (R6). Without the inode's block none is done, with all blocks each is.
func TestDead(t *testing.T) {
	p := planned(t, 64, 700, 6, 60)
	r, first := tall(t, p)
	o := r.begin()
	s := r.seen(o)
	data, pointers := r.blocks(o, 1)
	r.abort(o)
	inodes := p.Table
	needed := slices.Concat([]int{inodes, p.BBits, p.BBits + 1}, pointers, slices.DeleteFunc(data, func(b int) bool { return b == 0 }))
	x := dice(5)
	told := map[string]int{}
	list := deadCalls(p)
	for n := range 1500 {
		c := list[x.below(len(list))]
		w := mounted(t, r.d, p, 40)
		o := w.begin()
		held := 0
		for k, b := range needed {
			if n%20 == 0 || x.below(16) < 13-n%3 && (k != 0 || n%20 != 1) {
				o.Read(b)
				held++
			}
		}
		hasInodes := slices.Contains(w.c.Held(), inodes)
		die(t, w.d)
		got, e := c.run(w, o)
		want(t, "Crash", w.d.Crash(nil), api.OK)
		told[fmt.Sprint(c.name[:4], e)]++
		switch {
		case e != api.OK && e != api.ErrDead, e == api.OK && !hasInodes, e != api.OK && held == len(needed):
			t.Errorf("%s: %d", c.name, e)
		case e == api.OK:
			f := first.clone()
			if wanted := c.then(f); !bytes.Equal(got, wanted) {
				t.Errorf("%s: %s", c.name, differ(got, wanted))
			}
			w.wantSheet(o, 1, f)
		default:
			w.wantSeen(c.name, o, s)
			w.wantNothing(c.name, o, nil, nil)
		}
		if t.Failed() {
			t.Fatal(n)
		}
	}
	for _, name := range []string{"Read", "Writ", "Trun", "Dirt"} {
		if told[name+"0"] < 10 || told[name+"7"] < 10 {
			t.Error("not all is told of", name, told)
		}
	}
}

// TestDies: R6: wherever within a call the device dies, as the cache makes room for what is read: it is done, or nothing of it is.
func TestDies(t *testing.T) {
	p := planned(t, 64, 700, 6, 60)
	r, first := tall(t, p)
	o := r.begin()
	all, s := r.seen(o), r.inUse(o)
	r.abort(o)
	x := dice(6)
	told := map[string]int{}
	list := deadCalls(p)
	for n := range 6000 {
		c := list[n%len(list)]
		capacity := 1 + x.below(7)
		w := mounted(t, r.d, p, capacity, x.picks(30)...)
		o := w.begin()
		for n := range capacity {
			if x.below(4) != 0 {
				want(t, "Put", w.c.Put(p.Blocks-1-n, all.blocks[p.Blocks-1-n]), api.OK)
			}
		}
		want(t, "Fuse", w.d.Fuse(x.below(5)), api.OK)
		got, e := c.run(w, o)
		want(t, "Crash", w.d.Crash(nil), api.OK)
		told[fmt.Sprint(c.name[:4], e)]++
		if e == api.OK {
			f := first.clone()
			if wanted := c.then(f); !bytes.Equal(got, wanted) {
				t.Errorf("%s: %s", c.name, differ(got, wanted))
			}
			w.wantSheet(o, 1, f)
		} else {
			want(t, c.name, e, api.ErrDead)
			if list := s.differs(w.inUse(o)); len(list) != 0 {
				t.Errorf("%s changed blocks %v", c.name, list)
			}
			w.wantSheet(o, 1, first)
		}
		if t.Failed() {
			t.Fatal(n, capacity)
		}
	}
	for _, name := range []string{"Read", "Writ", "Trun", "Dirt"} {
		if told[name+"0"] < 10 || told[name+"7"] < 10 {
			t.Error("not all is told of", name, told)
		}
	}
}

// TestFullCache: an error of the cache is answered as one of the device is: where all of a cache is pinned, what is not held can't be read.
func TestFullCache(t *testing.T) {
	p := planned(t, 64, 700, 6, 60)
	r, first := tall(t, p)
	for _, c := range deadCalls(p) {
		for _, holds := range []bool{false, true} {
			w := mounted(t, r.d, p, 1)
			o := w.begin()
			b := p.Table
			if !holds {
				b = p.LogAt
			}
			w.c.Get(b)
			want(t, "Pin", w.c.Pin(b), api.OK)
			got, e := c.run(w, o)
			f := first.clone()
			wanted := c.then(f)
			if e != api.ErrFull && !(holds && e == api.OK && bytes.Equal(got, wanted)) {
				t.Errorf("%s, holds the inode %v: %v, %d", c.name, holds, got, e)
			}
			want(t, "Unpin", w.c.Unpin(b), api.OK)
			if e != api.OK {
				w.wantSheet(o, 1, first)
			}
		}
	}
}
