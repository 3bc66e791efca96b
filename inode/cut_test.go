package inode_test

import (
	"bytes"
	"fmt"
	"math"
	"slices"
	"testing"

	"skerry/api"
	"skerry/group"
)

// both is a world with an open operation, and the book of it.
type both struct {
	*world
	k *book
	o *group.Op
}

// filled answers a file, inode 1, that has these numbers made, in their order.
func filled(t *testing.T, p api.Plan, capacity int, list []int) both {
	t.Helper()
	w := formatted(t, p, capacity)
	r := both{w, newBook(w), w.begin()}
	r.k.begin()
	w.born(r.o, 1)
	r.k.put(1, 1, 1, 0)
	for _, n := range list {
		b, _, e := w.u.Make(r.o, 1, n)
		wanted, _, f := r.k.make(1, n)
		wantNumber(t, "Make", b, e, wanted, f)
	}
	return r
}

// settled lets all that was done so far be in its place, and begins anew.
func (r *both) settled() {
	r.t.Helper()
	want(r.t, "End", r.o.End(), r.k.end())
	r.settle()
	r.k.logged = numbers{}
	r.o = r.begin()
	r.k.begin()
}

// cut cuts the file, in the book too.
func (r both) cut(size int) {
	r.t.Helper()
	e := r.u.Cut(r.o, 1, size)
	_, f := r.k.cut(1, size)
	want(r.t, fmt.Sprint("Cut ", size), e, f)
}

// same holds the file against the book: the inode, its blocks, what is in use, and every pointer of the blocks that it has.
func (r both) same(i int) {
	r.t.Helper()
	r.wantInode(r.o, i, r.k.get(i))
	data, pointers := r.k.blocks(i)
	r.wantBlocks(r.o, i, data, pointers)
	r.wantUsed(r.o, r.k.open.used.list())
	for w, b := range r.k.open.inodes[i].named {
		if w.isData() {
			continue
		}
		for k := range r.p.Block / 2 {
			under := way{w[0], k, -1}
			if w[1] >= 0 {
				under = way{w[0], w[1], k}
			}
			raw := r.read(r.o, b)
			if got := int(raw[2*k]) + 256*int(raw[2*k+1]); got != r.k.open.inodes[i].named[under] {
				r.t.Fatalf("pointer %d of block %d: %d, should be %d", k, b, got, r.k.open.inodes[i].named[under])
			}
		}
	}
}

// shapes answers which numbers a file has: all that there is room for, few, with holes of several kinds, just one, none.
func shapes(p api.Plan) [][]int {
	per := p.Block / 2
	x := dice(p.Block)
	some := inFile(p, edges(p))
	slices.SortFunc(some, func(int, int) int { return x.below(3) - 1 })
	all := upTo(0, min(most(p), p.Blocks-p.Data-2-(p.Blocks-p.Data)/per))
	return [][]int{nil, all, some, {0}, inFile(p, []int{8}), inFile(p, []int{8 + per - 1}), inFile(p, []int{8 + per}), inFile(p, []int{8 + 2*per, most(p) - 1, 5}), upTo(0, min(8+per, len(all)))}
}

// TestCut: P13.3, files of several shapes, cut to each size of the edges: just the blocks that the chapter names are freed, their pointers are 0, Size is what was asked for, and only blocks in which something changes are written.
func TestCut(t *testing.T) {
	for _, p := range plans(t)[1:] {
		for n, shape := range shapes(p) {
			r := filled(t, p, 1+n, shape)
			r.same(1)
			if r.k.uses(r.k.open.writes) > p.Log {
				t.Fatal("the log has no room for that", p)
			}
			r.settled()
			before := r.k.page.used.list()
			for _, size := range sizes(p) {
				if !isSize(p, size) {
					continue
				}
				r.cut(size)
				r.same(1)
				for _, b := range before {
					if freed := !r.k.open.used.has(b); r.g.Kept(b) != freed {
						t.Errorf("block %d: freed is %v, should be %v", b, r.g.Kept(b), freed)
					}
				}
				wrote := r.k.open.writes.list()
				want(t, "End", endOnly(r), api.OK)
				if got := r.g.Blocks(); !slices.Equal(got, wrote) {
					t.Errorf("Cut to %d wrote %v, should write %v", size, got, wrote)
				}
				r = undone(t, r, shape)
				if t.Failed() {
					t.Fatal(p, n, size)
				}
			}
		}
	}
}

// endOnly ends the operation, and not the book's.
func endOnly(r both) api.Errno {
	return r.o.End()
}

// undone answers the same world, mounted anew without what was not committed.
func undone(t *testing.T, r both, shape []int) both {
	t.Helper()
	w := mounted(t, r.d, r.p, len(shape)%7+1)
	r.k.kept, r.k.open = w.g.Kept, nil
	r.k.begin()
	return both{w, r.k, w.begin()}
}

// TestCutAgain: P13.3, a file that is cut shorter and shorter within one operation, longer now and then, and filled anew.
func TestCutAgain(t *testing.T) {
	for _, p := range plans(t)[1:] {
		x := dice(p.Blocks)
		r := filled(t, p, 3, inFile(p, edges(p)))
		list := slices.DeleteFunc(sizes(p), func(size int) bool { return !isSize(p, size) })
		for range 25 {
			r.cut(list[x.below(len(list))])
			r.same(1)
			n := x.below(most(p))
			b, _, e := r.u.Make(r.o, 1, n)
			wanted, _, f := r.k.make(1, n)
			wantNumber(t, "Make", b, e, wanted, f)
			r.same(1)
			if t.Failed() {
				t.Fatal(p)
			}
		}
	}
}

// TestCutToNothing: P13.3 and what follows, Cut to 0 gives back all that Make has taken, whatever Size was, and again finds nothing to do.
func TestCutToNothing(t *testing.T) {
	for _, p := range plans(t)[1:] {
		for n, shape := range shapes(p) {
			for _, size := range []int{0, 1, most(p) * p.Block} {
				w := formatted(t, p, 2)
				o := w.begin()
				before, free := w.seen(o), w.free(o)
				w.born(o, 1)
				for _, index := range shape {
					w.make(o, 1, index)
				}
				x := w.get(o, 1)
				x.Size = size
				w.put(o, 1, x)
				w.end(o)
				w.commit()
				o = w.begin()
				want(t, "Cut", w.u.Cut(o, 1, 0), api.OK)
				w.wantInode(o, 1, api.Inode{Kind: 1, Links: 1})
				w.wantBlocks(o, 1, nil, nil)
				want(t, "Cut", w.u.Cut(o, 1, 0), api.OK)
				w.put(o, 1, api.Inode{})
				w.end(o)
				w.settle()
				o = w.begin()
				wantNumber(t, "free", w.free(o), api.OK, free, api.OK)
				// Only the log, and what data blocks held, may be another now.
				for _, b := range before.differs(w.seen(o)) {
					if b != 1 && b < p.Data && (b < p.LogAt || b >= p.IBits) {
						t.Errorf("%v, shape %d: block %d is not as it was", p, n, b)
					}
				}
			}
		}
	}
}

// TestCutLonger: P13.3, to a size above its own nothing of a file is freed but what lies behind it still; no block with pointers is asked for.
func TestCutLonger(t *testing.T) {
	p := planned(t, 64, 300, 10, 60)
	r := filled(t, p, 9, []int{0, 7, 9, 50, 1000})
	r.settled()
	for _, size := range []int{1001 * 64, 1000*64 + 1, 68096, 68095, 1001*64 + 1} {
		r.cut(size)
		r.same(1)
		w := mounted(t, r.d, p, 3)
		o := w.begin()
		// The inode is held, and nothing else can be read.
		w.get(o, 1)
		die(t, w.d)
		if size >= 1064*64-63 {
			want(t, "Cut", w.u.Cut(o, 1, size), api.OK)
			w.end(o)
			if got := w.g.Blocks(); !slices.Equal(got, []int{p.Table}) {
				t.Error("Cut wrote", got)
			}
		}
		want(t, "Crash", r.d.Crash(nil), api.OK)
	}
	wantNumber(t, "blocks", len(r.k.open.used), api.OK, 9, api.OK)
}

// TestCutFree: P13.3, an inode of Kind 0 has no blocks: cut to 0 it stays as it is; other sizes are ErrForm, as codec.Inode has it, and nothing is changed.
func TestCutFree(t *testing.T) {
	for _, p := range plans(t) {
		w := formatted(t, p, 2)
		o := w.begin()
		for _, size := range sizes(p) {
			if isSize(p, size) && size != 0 {
				want(t, "Cut", w.u.Cut(o, 1, size), api.ErrForm)
			}
		}
		w.wantNothing("Cut", o, nil)
		o = w.begin()
		want(t, "Cut", w.u.Cut(o, 1, 0), api.OK)
		w.wantInode(o, 1, api.Inode{})
		w.wantBlocks(o, 1, nil, nil)
		w.wantUsed(o, nil)
	}
}

// TestCutKeepsRest: P13.3, Kind, Links, other inodes and other files' blocks are as they were.
func TestCutKeepsRest(t *testing.T) {
	p := planned(t, 64, 300, 10, 60)
	w := formatted(t, p, 5)
	k := newBook(w)
	o := w.begin()
	k.begin()
	r := both{w, k, o}
	for i := 2; i < 6; i++ {
		w.put(o, i, api.Inode{Kind: 1 + i%2, Links: i, Size: 10 * i})
		k.put(i, 1+i%2, i, 10*i)
	}
	for _, n := range []int{0, 8, 9, 41, 40, 100, 72, 3} {
		for i := 2; i < 6; i++ {
			w.make(o, i, n)
			k.make(i, n)
		}
	}
	for _, size := range []int{3000, 64 * 41, 64*40 + 1, 600, 513, 512, 64, 1, 0} {
		for i := 3; i < 5; i++ {
			want(t, "Cut", w.u.Cut(o, i, size), api.OK)
			k.cut(i, size)
			for j := 2; j < 6; j++ {
				r.same(j)
			}
		}
	}
}

// TestBlocks: P13.4, data up to the last one that is no hole, 0 at holes; pointers in the chapter's order, also those without a block below them; whatever Size is.
func TestBlocks(t *testing.T) {
	for _, p := range plans(t)[1:] {
		for n, shape := range shapes(p) {
			r := filled(t, p, 1+n, shape)
			data, pointers := r.k.blocks(1)
			wantNumber(t, "data", len(data), api.OK, slices.Max(append([]int{-1}, shape...))+1, api.OK)
			for _, size := range []int{0, 1, p.Block, 8 * p.Block, most(p) * p.Block, most(p)*p.Block + 1, math.MaxUint32} {
				x := r.get(r.o, 1)
				x.Size = size
				r.put(r.o, 1, x)
				r.wantBlocks(r.o, 1, data, pointers)
			}
			if t.Failed() {
				t.Fatal(p, n)
			}
		}
	}
	// Blocks with pointers in which nothing is named: one is left by a Cut, others by Makes without space.
	p := planned(t, 64, 100, 10, 30)
	r := filled(t, p, 3, []int{8, 72, 40})
	d := p.Data
	r.wantBlocks(r.o, 1, append(append(make([]int, 8), d+1), append(append(make([]int, 31), d+6), append(make([]int, 31), d+4)...)...), []int{d, d + 2, d + 5, d + 3})
	r.cut(64*40 + 1)
	r.wantBlocks(r.o, 1, append(append(make([]int, 8), d+1), append(make([]int, 31), d+6)...), []int{d, d + 2, d + 5})
	r.cut(64*8 + 1)
	r.wantBlocks(r.o, 1, append(make([]int, 8), d+1), []int{d})
	r.leave(r.o, 2)
	_, _, e := r.u.Make(r.o, 1, 1000)
	want(t, "Make", e, api.ErrNoSpace)
	r.wantBlocks(r.o, 1, append(make([]int, 8), d+1), []int{d, 98, 99})
}

// TestBlocksApart: R4, what Blocks answers is new memory, the room behind lists too.
func TestBlocksApart(t *testing.T) {
	p := planned(t, 64, 300, 10, 60)
	r := filled(t, p, 9, []int{0, 7, 9, 50, 1000})
	data, pointers := r.k.blocks(1)
	for range 3 {
		d, q, e := r.u.Blocks(r.o, 1)
		want(t, "Blocks", e, api.OK)
		overwrite(d, -7)
		if !slices.Equal(q, pointers) {
			t.Error("both lists share memory:", q, "should be", pointers)
		}
		overwrite(q, -8)
		if slices.ContainsFunc(d, func(n int) bool { return n != -7 }) {
			t.Error("both lists share memory:", d)
		}
		r.wantBlocks(r.o, 1, data, pointers)
	}
	r.same(1)
}

// overwrite fills a list, and the room behind it.
func overwrite(list []int, with int) {
	list = list[:cap(list)]
	for i := range list {
		list[i] = with
	}
}

// broken answers files in which something is not as it should be, each with the error of a Cut to 0: what alloc or the operation answers.
func broken(p api.Plan) map[string]struct {
	do func(r *both, named map[way]int)
	e  api.Errno
} {
	type fault = struct {
		do func(r *both, named map[way]int)
		e  api.Errno
	}
	unmark := func(ways ...way) fault {
		return fault{func(r *both, named map[way]int) {
			for _, w := range ways {
				b := named[w]
				at := p.BBits + b/(8*p.Block)
				data := r.read(r.o, at)
				data[b%(8*p.Block)/8] &^= 1 << (b % 8)
				want(r.t, "Write", r.o.Write(at, data), api.OK)
			}
		}, api.ErrNone}
	}
	point := func(w way, b int, e api.Errno) fault {
		return fault{func(r *both, named map[way]int) {
			to := b
			if b < 0 {
				to = named[way{0, -1, -1}]
			}
			if h, in := w.holder(); in {
				data := r.read(r.o, named[h])
				at := w[1]
				if w[2] >= 0 {
					at = w[2]
				}
				data[2*at], data[2*at+1] = byte(to), byte(to/256)
				want(r.t, "Write", r.o.Write(named[h], data), api.OK)
				return
			}
			x := r.get(r.o, 1)
			switch w[0] {
			case 8:
				x.Single = to
			case 9:
				x.Double = to
			default:
				x.Direct[w[0]] = to
			}
			r.put(r.o, 1, x)
		}, e}
	}
	return map[string]fault{
		"a direct bit": unmark(way{0, -1, -1}), "the last direct bit": unmark(way{7, -1, -1}), "Single's bit": unmark(way{8, -1, -1}), "a bit in Single": unmark(way{8, 5, -1}),
		"Double's bit": unmark(way{9, -1, -1}), "an inner bit": unmark(way{9, 2, -1}), "the last bit": unmark(way{9, 31, 31}), "all": unmark(way{0, -1, -1}, way{8, -1, -1}, way{9, 31, 31}),
		"a direct one far off": point(way{7, -1, -1}, 65535, api.ErrRange), "a direct one ahead of data": point(way{6, -1, -1}, p.Data-1, api.ErrRange), "Single far off": point(way{8, -1, -1}, p.Blocks, api.ErrRange),
		"Double far off": point(way{9, -1, -1}, p.Blocks+1, api.ErrRange), "one in Single far off": point(way{8, 31, -1}, p.Blocks, api.ErrRange), "an inner one far off": point(way{9, 31, -1}, p.Blocks, api.ErrRange),
		"the last one ahead of data": point(way{9, 31, 31}, 1, api.ErrRange), "one in Single twice": point(way{8, 6, -1}, -1, api.ErrNone), "a direct one twice": point(way{4, -1, -1}, -1, api.ErrNone), "the last one twice": point(way{9, 31, 31}, -1, api.ErrNone),
	}
}

// TestCutBroken: P13.3, with R6: a Cut that meets a block that cannot be freed, or a pointer to no block, answers the error that alloc or the operation has for it, and has changed nothing, wherever in the file it stands.
func TestCutBroken(t *testing.T) {
	p := planned(t, 64, 1300, 10, 60)
	list := []int{0, 6, 7, 8, 13, 39, 40, 104, 105, 500, 1063}
	for name, fault := range broken(p) {
		r := filled(t, p, 4, list)
		fault.do(&r, r.k.open.inodes[1].named)
		r.end(r.o)
		r.settle()
		r.o = r.begin()
		s, x := r.seen(r.o), r.get(r.o, 1)
		for range 2 {
			want(t, name, r.u.Cut(r.o, 1, 0), fault.e)
			r.wantSeen(name, r.o, s)
			r.wantInode(r.o, 1, x)
		}
		r.wantNothing(name, r.o, nil)
		// What lies ahead of the size does not matter.
		r.o = r.begin()
		want(t, name, r.u.Cut(r.o, 1, 1064*64), api.OK)
	}
}

// TestCutStays: P13.3, with R6: a block with pointers that would stay, but that the log does not carry, is ErrRange, and nothing is changed.
func TestCutStays(t *testing.T) {
	p := planned(t, 64, 300, 10, 60)
	w := formatted(t, p, 4)
	o := w.begin()
	b, e := w.a.Block(o)
	want(t, "Block", e, api.OK)
	c, e := w.a.Block(o)
	want(t, "Block", e, api.OK)
	data := make([]byte, 64)
	data[2], data[3] = byte(c), byte(c/256)
	w.put(o, 1, api.Inode{Kind: 1, Direct: [8]int{7: b}, Single: 3})
	w.end(o)
	w.settle()
	want(t, "Load", w.d.Load(3, data), api.OK)
	w = mounted(t, w.d, p, 3)
	o = w.begin()
	s := w.seen(o)
	want(t, "Cut", w.u.Cut(o, 1, 64*8+1), api.ErrRange)
	w.wantSeen("Cut", o, s)
	w.wantNothing("Cut", o, nil)
	o = w.begin()
	want(t, "Cut", w.u.Cut(o, 1, 64*9+1), api.OK)
	w.wantBlocks(o, 1, append(make([]int, 7), b, 0, c), []int{3})
	w.wantUsed(o, []int{b, c})
}

// TestBlocksBroken: P13.4, a pointer on a way to no block is the operation's ErrRange, with nothing beside it; one at the end of a way is told as it stands.
func TestBlocksBroken(t *testing.T) {
	p := planned(t, 64, 100, 10, 30)
	w := formatted(t, p, 3)
	o := w.begin()
	far := bytes.Repeat([]byte{0xff}, 64)
	want(t, "Write", o.Write(50, far), api.OK)
	w.put(o, 2, api.Inode{Kind: 1, Direct: [8]int{0, 65535}, Single: 50})
	data := append([]int{0, 65535}, make([]int, 38)...)
	for n := 8; n < 40; n++ {
		data[n] = 65535
	}
	w.wantBlocks(o, 2, data, []int{50})
	for _, x := range []api.Inode{{Kind: 1, Direct: [8]int{60}, Single: 100}, {Kind: 1, Single: 60, Double: 65535}, {Kind: 2, Direct: [8]int{60}, Double: 50}} {
		want(t, "Write", o.Write(60, make([]byte, 64)), api.OK)
		w.put(o, 2, x)
		data, pointers, e := w.u.Blocks(o, 2)
		if len(data) != 0 || len(pointers) != 0 || e != api.ErrRange {
			t.Error("Blocks:", data, pointers, e)
		}
	}
}

// TestBehindMost: P13.3 and P13.4, with large blocks a file ends ahead of the last pointers of Single, and ahead of Double: what stands there all the same is told, and is freed by any Cut.
func TestBehindMost(t *testing.T) {
	p := planned(t, 4096, 200, 10, 30)
	for _, size := range []int{0, 1, 128 * 4096} {
		w := formatted(t, p, 4)
		o := w.begin()
		var b [6]int
		for n := range b {
			b[n], _ = w.a.Block(o)
		}
		block := func(to int, list map[int]int) {
			data := make([]byte, 4096)
			for k, b := range list {
				data[2*k], data[2*k+1] = byte(b), byte(b/256)
			}
			want(t, "Write", o.Write(to, data), api.OK)
		}
		block(b[0], map[int]int{0: b[1], 2047: b[2]})
		block(b[3], map[int]int{2047: b[4]})
		block(b[4], map[int]int{2047: b[5]})
		w.put(o, 2, api.Inode{Kind: 1, Single: b[0], Double: b[3]})
		data := make([]int, 8+2048+2048*2048)
		data[8], data[8+2047], data[len(data)-1] = b[1], b[2], b[5]
		w.wantBlocks(o, 2, data, []int{b[0], b[3], b[4]})
		want(t, "Cut", w.u.Cut(o, 2, size), api.OK)
		if size < 128*4096 {
			w.wantUsed(o, nil)
			w.wantBlocks(o, 2, nil, nil)
		} else {
			w.wantUsed(o, []int{b[0], b[1]})
			w.wantBlocks(o, 2, data[:9], []int{b[0]})
		}
	}
}
