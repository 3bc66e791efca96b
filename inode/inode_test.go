package inode_test

import (
	"bytes"
	"encoding/binary"
	"fmt"
	"math"
	"slices"
	"testing"

	"skerry/alloc"
	"skerry/api"
	"skerry/inode"
	"skerry/plan"
)

// TestExample: P13.1 to P13.4, the chapter's example.
func TestExample(t *testing.T) {
	p := planned(t, 64, 100, 10, 30)
	w := formatted(t, p, 8)
	o := w.begin()
	w.born(o, 2)
	all := w.free(o)
	d := p.Data
	for _, x := range []struct{ index, takes, block int }{{0, 1, d}, {8, 2, d + 2}, {40, 3, d + 5}} {
		b, fresh, e := w.u.Make(o, 2, x.index)
		if b != x.block || !fresh || e != api.OK {
			t.Errorf("Make %d: %d, %v, %d", x.index, b, fresh, e)
		}
		all -= x.takes
		wantNumber(t, "free", w.free(o), api.OK, all, api.OK)
	}
	w.wantFind(o, 2, 7, 0)
	w.wantInode(o, 2, api.Inode{Kind: 1, Links: 1, Direct: [8]int{d}, Single: d + 1, Double: d + 3})
	data := make([]int, 41)
	data[0], data[8], data[40] = d, d+2, d+5
	w.wantBlocks(o, 2, data, []int{d + 1, d + 3, d + 4})
	want(t, "Cut", w.u.Cut(o, 2, 512), api.OK)
	w.wantInode(o, 2, api.Inode{Kind: 1, Links: 1, Size: 512, Direct: [8]int{d}})
	w.wantBlocks(o, 2, []int{d}, nil)
	w.wantUsed(o, []int{d})
}

// TestNew: P13.1, with R2 and R3: a nil Alloc is ErrArg, ahead of a plan that is not sound.
func TestNew(t *testing.T) {
	for _, p := range plans(t)[:5] {
		w := formatted(t, p, 2)
		for _, q := range append(unsound(p), p) {
			if u, e := inode.New(nil, q); u != nil || e != api.ErrArg {
				t.Errorf("New of a nil Alloc, %v: %v, %d", q, u, e)
			}
			u, e := inode.New(w.a, q)
			if wanted := plan.Check(q); (u != nil) != (wanted == api.OK) || e != wanted {
				t.Errorf("New of %v: %v, %d, should be %d", q, u, e, wanted)
			}
		}
		// A dead device does not matter yet, nor does an operation that is open.
		die(t, w.d)
		w.begin()
		if u, e := inode.New(w.a, p); u == nil || e != api.OK {
			t.Error("New on a dead device:", u, e)
		}
	}
}

// odd answers inodes of all kinds that have room in their bytes.
func odd() []api.Inode {
	return []api.Inode{
		{}, {Kind: 1}, {Kind: 2}, {Kind: 1, Links: 1}, {Kind: 2, Links: 65535, Size: math.MaxUint32, Single: 65535, Double: 65535},
		{Kind: 1, Links: 0x0102, Size: 0x03040506, Direct: [8]int{0x0708, 0x090A, 0x0B0C, 0x0D0E, 0x0F10, 0x1112, 0x1314, 0x1516}, Single: 0x1718, Double: 0x191A},
		{Kind: 2, Direct: [8]int{1, 2, 3, 4, 5, 6, 7, 8}}, {Kind: 1, Double: 1}, {Kind: 1, Size: 1 << 20, Single: 3},
	}
}

// wantBytes answers what an inode's 32 bytes should be, written out by hand.
func wantBytes(x api.Inode) []byte {
	b := binary.LittleEndian.AppendUint16([]byte{byte(x.Kind), 0}, uint16(x.Links))
	b = binary.LittleEndian.AppendUint32(b, uint32(x.Size))
	for _, n := range append(x.Direct[:], x.Single, x.Double) {
		b = binary.LittleEndian.AppendUint16(b, uint16(n))
	}
	return append(b, 0, 0, 0, 0)
}

// TestGetPut: P13.1, what is got is what was put last, the bytes of an inode stand in its place, and those of others, and all other blocks, are as they were; inodes 0 and 1 are ones like others.
func TestGetPut(t *testing.T) {
	for _, p := range plans(t) {
		w := formatted(t, p, 2)
		o := w.begin()
		table := make([]api.Inode, p.Inodes)
		for n := range 3 {
			for _, i := range []int{0, 1, p.Inodes - 1, p.Inodes / 2, p.Inodes - 2} {
				for _, x := range odd() {
					x.Links = (x.Links + n) % 65536 * min(x.Kind, 1)
					w.put(o, i, x)
					table[i] = x
					w.wantInode(o, i, x)
				}
				x := odd()[(i+n)%9]
				w.put(o, i, x)
				table[i] = x
			}
		}
		for i, x := range table {
			w.wantInode(o, i, x)
			block, at := p.Table+32*i/p.Block, 32*i%p.Block
			if got := w.read(o, block)[at : at+32]; !bytes.Equal(got, wantBytes(x)) {
				t.Errorf("inode %d: %d, should be %d", i, got, wantBytes(x))
			}
		}
		s := w.seen(o)
		each := p.Block / 32
		for i := p.Inodes; i < p.TLen*each; i++ {
			if !bytes.Equal(s.blocks[p.Table+i/each][i%each*32:][:32], make([]byte, 32)) {
				t.Error("there are bytes behind the last inode")
			}
		}
		w.abort(o)
		o = w.begin()
		for i := range table {
			w.wantInode(o, i, api.Inode{})
		}
		w.born(o, p.Inodes-1)
		if got := w.seen(o).differs(s); slices.ContainsFunc(got, func(b int) bool { return b < p.Table || b >= p.Data }) {
			t.Error("Put changed", got)
		}
		w.wantNothing("Put", o, []int{p.Data - 1})
		if t.Failed() {
			t.Fatal(p)
		}
	}
}

// TestEachAlone: P13.1, a Put of each inode of a table leaves all others as they were.
func TestEachAlone(t *testing.T) {
	p := planned(t, 256, 60, 20, 20)
	w := formatted(t, p, 1)
	o := w.begin()
	table := make([]api.Inode, p.Inodes)
	x := dice(5)
	for range 200 {
		i := x.below(p.Inodes)
		table[i] = odd()[x.below(9)]
		w.put(o, i, table[i])
		for j := range table {
			w.wantInode(o, j, table[j])
		}
		if x.below(9) == 0 {
			w.end(o)
			if x.below(2) == 0 {
				w.commit()
			}
			o = w.begin()
		}
	}
}

// refusedInodes answers inodes that codec.Inode refuses, with its error.
func refusedInodes() map[api.Inode]api.Errno {
	list := map[api.Inode]api.Errno{}
	for _, n := range []int{math.MinInt, -1, 3, 4, 255, 256, 257, math.MaxInt} {
		list[api.Inode{Kind: n}] = api.ErrForm
		list[api.Inode{Kind: n, Links: -1, Size: 1}] = api.ErrForm
	}
	for _, n := range []int{math.MinInt, -1, 1, 65535, 65536, math.MaxInt} {
		list[api.Inode{Links: n}], list[api.Inode{Size: n}], list[api.Inode{Single: n}], list[api.Inode{Double: n}] = api.ErrForm, api.ErrForm, api.ErrForm, api.ErrForm
		list[api.Inode{Direct: [8]int{7: n}}] = api.ErrForm
	}
	for _, n := range []int{math.MinInt, -65536, -1, 65536, 1 << 32, math.MaxInt} {
		for kind := 1; kind <= 2; kind++ {
			list[api.Inode{Kind: kind, Links: n}], list[api.Inode{Kind: kind, Single: n}], list[api.Inode{Kind: kind, Double: n}] = api.ErrValue, api.ErrValue, api.ErrValue
			for k := range 8 {
				x := api.Inode{Kind: kind, Links: 1}
				x.Direct[k] = n
				list[x] = api.ErrValue
			}
			if n != 65536 {
				list[api.Inode{Kind: kind, Size: n}] = api.ErrValue
			}
		}
	}
	return list
}

// TestPutRefused: P13.1, each error of codec.Inode is the answer, and nothing is changed then.
func TestPutRefused(t *testing.T) {
	p := planned(t, 64, 100, 10, 30)
	w := formatted(t, p, 2)
	o := w.begin()
	w.put(o, 4, odd()[5])
	w.put(o, 5, odd()[6])
	w.end(o)
	w.settle()
	o = w.begin()
	for x, e := range refusedInodes() {
		for _, i := range []int{0, 1, 4, 9} {
			want(t, fmt.Sprint("Put of ", x), w.u.Put(o, i, x), e)
		}
	}
	w.wantInode(o, 4, odd()[5])
	w.wantInode(o, 5, odd()[6])
	w.wantNothing("Put", o, nil)
}

// TestCorrupt: 32 bytes that are no inode are ErrCorrupt to all but Put, which mends them; their neighbours are read still. Nothing is changed by it.
func TestCorrupt(t *testing.T) {
	p := planned(t, 64, 100, 10, 30)
	bad := [][]byte{bytes.Repeat([]byte{0xff}, 32), bytes.Repeat([]byte{1}, 32), make([]byte, 32), make([]byte, 32), make([]byte, 32), make([]byte, 32)}
	bad[2][0], bad[3][5], bad[4][0], bad[4][1], bad[5][31] = 3, 1, 1, 1, 1
	for n, raw := range bad {
		for _, i := range []int{0, 1, 2, 9} {
			w := formatted(t, p, 2)
			data := append(wantBytes(odd()[5]), wantBytes(odd()[5])...)
			copy(data[i%2*32:], raw)
			want(t, "Load", w.d.Load(p.Table+i/2, data), api.OK)
			o := w.begin()
			x, e := w.u.Get(o, i)
			wantNumber(t, fmt.Sprint("Get of bytes ", n), x, e, api.Inode{}, api.ErrCorrupt)
			for _, index := range inFile(p, edges(p)) {
				b, e := w.u.Find(o, i, index)
				wantNumber(t, "Find", b, e, 0, api.ErrCorrupt)
				b, fresh, e := w.u.Make(o, i, index)
				wantNumber(t, "Make", b, e, 0, api.ErrCorrupt)
				wantNumber(t, "Make", fresh, e, false, api.ErrCorrupt)
			}
			for _, size := range []int{0, 1, 64, 512, 68096} {
				want(t, "Cut", w.u.Cut(o, i, size), api.ErrCorrupt)
			}
			blocks, pointers, e := w.u.Blocks(o, i)
			if len(blocks) != 0 || len(pointers) != 0 || e != api.ErrCorrupt {
				t.Error("Blocks:", blocks, pointers, e)
			}
			w.wantInode(o, i^1, odd()[5])
			w.wantUsed(o, nil)
			w.wantNothing("a call on bytes that are no inode", o, nil)
			o = w.begin()
			w.put(o, i, odd()[3])
			w.wantInode(o, i, odd()[3])
			w.wantInode(o, i^1, odd()[5])
		}
	}
}

// TestInodeNumbers: P13.1 to P13.4, with R2 and R3: which inodes there are, of all numbers.
func TestInodeNumbers(t *testing.T) {
	for _, p := range plans(t) {
		w := formatted(t, p, 2)
		o := w.begin()
		for _, i := range append(slices.Clone(far), -1, p.Inodes, p.Inodes+1, p.TLen*p.Block/32, 65536) {
			if i >= 0 && i < p.Inodes {
				t.Fatal("a number that is none", i)
			}
			x, e := w.u.Get(o, i)
			wantNumber(t, "Get", x, e, api.Inode{}, api.ErrRange)
			want(t, "Put", w.u.Put(o, i, api.Inode{Kind: 1}), api.ErrRange)
			want(t, "Put of none", w.u.Put(o, i, api.Inode{Kind: 9}), api.ErrRange)
			for _, index := range []int{math.MinInt, -1, 0, 8, 8 + p.Block, math.MaxInt} {
				b, e := w.u.Find(o, i, index)
				wantNumber(t, "Find", b, e, 0, api.ErrRange)
				b, fresh, e := w.u.Make(o, i, index)
				wantNumber(t, "Make", b, e, 0, api.ErrRange)
				wantNumber(t, "Make", fresh, e, false, api.ErrRange)
				want(t, "Cut", w.u.Cut(o, i, index), api.ErrRange)
			}
			data, pointers, e := w.u.Blocks(o, i)
			if len(data) != 0 || len(pointers) != 0 || e != api.ErrRange {
				t.Error("Blocks:", data, pointers, e)
			}
		}
		w.wantNothing("a call on no inode", o, nil)
		o = w.begin()
		for _, i := range []int{0, 1, p.Inodes - 1} {
			w.born(o, i)
			b, fresh, e := w.u.Make(o, i, 0)
			if b < p.Data || !fresh || e != api.OK {
				t.Errorf("Make of inode %d: %d, %v, %d", i, b, fresh, e)
				continue
			}
			w.wantFind(o, i, 0, b)
			w.wantBlocks(o, i, []int{b}, nil)
			want(t, "Cut", w.u.Cut(o, i, 0), api.OK)
			// It is kept now, and not there for the next one, where there is but one.
			w.put(o, i, api.Inode{})
			if p.Blocks-p.Data < 3 {
				break
			}
		}
	}
}

// TestIndexes: P13.2 and P13.3, which numbers and sizes there are, of all; nothing is changed by others.
func TestIndexes(t *testing.T) {
	for _, p := range plans(t) {
		w := formatted(t, p, 2)
		o := w.begin()
		w.born(o, 1)
		w.end(o)
		w.settle()
		o = w.begin()
		for _, index := range append(slices.Clone(far), edges(p)...) {
			b, e := w.u.Find(o, 1, index)
			if index >= 0 && index < most(p) {
				wantNumber(t, "Find", b, e, 0, api.OK)
				continue
			}
			wantNumber(t, fmt.Sprint("Find ", index), b, e, 0, api.ErrRange)
			b, fresh, e := w.u.Make(o, 1, index)
			wantNumber(t, fmt.Sprint("Make ", index), b, e, 0, api.ErrRange)
			wantNumber(t, "Make", fresh, e, false, api.ErrRange)
		}
		for _, size := range append(slices.Clone(far), -1, -p.Block, most(p)*p.Block+1, (most(p)+1)*p.Block) {
			want(t, fmt.Sprint("Cut ", size), w.u.Cut(o, 1, size), api.ErrRange)
		}
		w.wantNothing("a call of no number", o, nil)
		o = w.begin()
		for _, size := range sizes(p) {
			if isSize(p, size) {
				want(t, fmt.Sprint("Cut ", size), w.u.Cut(o, 1, size), api.OK)
				w.wantInode(o, 1, api.Inode{Kind: 1, Links: 1, Size: size})
			}
		}
		w.wantUsed(o, nil)
		if t.Failed() {
			t.Fatal(p)
		}
	}
}

// TestMake: P13.2, of a new file, each number of the edges: the blocks of its way are taken in order, the least ones, each is named where the chapter says, by two bytes, and nothing else is in those with pointers; a second Make takes nothing. Find answers the same, and 0 at all other numbers.
func TestMake(t *testing.T) {
	for _, p := range plans(t)[1:] {
		w := formatted(t, p, 3)
		for _, index := range inFile(p, edges(p)) {
			o := w.begin()
			i := p.Inodes - 1
			w.put(o, i, api.Inode{Kind: 2, Links: 7, Size: 99})
			ways := waysTo(p, index)
			end := p.Data + len(ways) - 1
			b, fresh, e := w.u.Make(o, i, index)
			if b != end || !fresh || e != api.OK {
				t.Errorf("Make %d: %d, %v, %d, should be %d", index, b, fresh, e, end)
			}
			w.wantUsed(o, upTo(p.Data, end+1))
			x := api.Inode{Kind: 2, Links: 7, Size: 99}
			switch way := ways[0]; way[0] {
			case 8:
				x.Single = p.Data
			case 9:
				x.Double = p.Data
			default:
				x.Direct[way[0]] = p.Data
			}
			w.wantInode(o, i, x)
			for n, way := range ways[1:] {
				data := make([]byte, p.Block)
				binary.LittleEndian.PutUint16(data[2*way[n+1]:], uint16(p.Data+n+1))
				if got := w.read(o, p.Data+n); !bytes.Equal(got, data) {
					t.Errorf("Make %d: block %d is %d, should be %d", index, n, got, data)
				}
			}
			s := w.seen(o)
			if !bytes.Equal(s.blocks[end], bytes.Repeat([]byte{rubble}, p.Block)) {
				t.Error("Make wrote into a data block")
			}
			b, fresh, e = w.u.Make(o, i, index)
			if b != end || fresh || e != api.OK {
				t.Errorf("Make %d again: %d, %v, %d, should be %d", index, b, fresh, e, end)
			}
			for _, other := range inFile(p, edges(p)) {
				if other == index {
					w.wantFind(o, i, other, end)
				} else {
					w.wantFind(o, i, other, 0)
				}
			}
			w.wantSeen("Find, and Make of what is there,", o, s)
			w.abort(o)
			if t.Failed() {
				t.Fatal(p)
			}
		}
	}
}

// TestMakeTogether: P13.2, numbers of one file in several orders: only what is missing is taken, and what was found before is found still.
func TestMakeTogether(t *testing.T) {
	for _, p := range plans(t)[1:] {
		x := dice(p.Block + p.Blocks)
		for round := range 6 {
			w := formatted(t, p, 1+round)
			k := newBook(w)
			o := w.begin()
			k.begin()
			list := inFile(p, edges(p))
			for range 20 {
				list = append(list, x.below(most(p)))
			}
			w.born(o, 1)
			k.put(1, 1, 1, 0)
			for range list {
				index := list[x.below(len(list))]
				w.wantFind(o, 1, index, k.find(1, index))
				b, fresh, e := w.u.Make(o, 1, index)
				was := k.find(1, index)
				wanted, _, f := k.make(1, index)
				wantNumber(t, "Make", b, e, wanted, f)
				wantNumber(t, "fresh", fresh, e, was == 0 && f == api.OK, f)
				w.wantUsed(o, k.open.used.list())
				w.wantInode(o, 1, k.get(1))
				w.wantFind(o, 1, index, k.find(1, index))
			}
			for _, index := range list {
				w.wantFind(o, 1, index, k.find(1, index))
			}
			data, pointers := k.blocks(1)
			w.wantBlocks(o, 1, data, pointers)
			if t.Failed() {
				t.Fatal(p, round)
			}
			e := o.End()
			want(t, "End", e, k.end())
			if got := w.g.Blocks(); e == api.OK && !slices.Equal(got, k.logged.list()) {
				t.Errorf("the group has %v, should have %v", got, k.logged.list())
			}
		}
	}
}

// TestBeginsWithZero: P13.2, a block with pointers begins with bytes 0, whatever it held: on the device, in the cache, the group or the operation; a number beside that which was made is a hole then.
func TestBeginsWithZero(t *testing.T) {
	p := planned(t, 64, 100, 10, 30)
	fill := bytes.Repeat([]byte{0x33}, 64)
	for where := range 5 {
		w := formatted(t, p, 40)
		d := p.Data
		o := w.begin()
		w.born(o, 2)
		for b := d; b < d+6; b++ {
			switch where {
			case 1, 2:
				want(t, "Data", o.Data(b, fill), api.OK)
			case 3, 4:
				want(t, "Write", o.Write(b, fill), api.OK)
			}
		}
		switch where {
		case 1, 3:
			w.end(o)
			o = w.begin()
		}
		if where == 3 {
			// What is pending is kept, so it is not taken: it must be the group's alone.
			if got := w.g.Blocks(); len(got) != 7 {
				t.Fatal("the group has", got)
			}
		}
		w.make(o, 2, 9)
		w.make(o, 2, 41)
		w.wantBlocks(o, 2, append(make([]int, 9), append([]int{d + 1}, append(make([]int, 31), d+4)...)...), []int{d, d + 2, d + 3})
		for _, x := range [][2]int{{d, 1}, {d + 2, 0}, {d + 3, 1}} {
			data := make([]byte, 64)
			data[2*x[1]] = byte(x[0] + 1)
			if got := w.read(o, x[0]); !bytes.Equal(got, data) {
				t.Errorf("where %d: block %d is %d", where, x[0], got)
			}
		}
		for _, index := range []int{8, 10, 39, 40, 42, 71, 72, 1063} {
			w.wantFind(o, 2, index, 0)
		}
	}
}

// TestMakeFree: P13.2, an inode of Kind 0: the first block of the way is taken, then ErrForm is answered; it stays taken, and all else is as it was, also the block's bytes.
func TestMakeFree(t *testing.T) {
	for _, p := range plans(t)[1:] {
		w := formatted(t, p, 2)
		for n, index := range inFile(p, edges(p)) {
			o := w.begin()
			s := w.seen(o)
			b, fresh, e := w.u.Make(o, 1, index)
			wantNumber(t, "Make", b, e, 0, api.ErrForm)
			wantNumber(t, "Make", fresh, e, false, api.ErrForm)
			w.wantUsed(o, []int{p.Data})
			w.wantFind(o, 1, index, 0)
			w.wantInode(o, 1, api.Inode{})
			b, _, e = w.u.Make(o, 1, index)
			wantNumber(t, "Make", b, e, 0, api.ErrForm)
			w.wantUsed(o, []int{p.Data, p.Data + 1})
			if got := s.differs(w.seen(o)); !slices.Equal(got, []int{p.BBits + p.Data/(8*p.Block)}) {
				t.Errorf("Make of an inode that is free changed %v", got)
			}
			if n == 0 {
				w.wantBlocks(o, 1, nil, nil)
			}
			w.abort(o)
		}
		o := w.begin()
		w.leave(o, 0)
		b, fresh, e := w.u.Make(o, 1, 0)
		wantNumber(t, "Make without space", b, e, 0, api.ErrNoSpace)
		wantNumber(t, "Make without space", fresh, e, false, api.ErrNoSpace)
	}
}

// TestNoSpace: P13.2, where there are fewer blocks than the way needs, ErrNoSpace; what was taken stays taken, and is named, so a later Make goes on there, and Cut to 0 frees it.
func TestNoSpace(t *testing.T) {
	for _, p := range plans(t)[1:] {
		for _, index := range inFile(p, edges(p)) {
			ways := waysTo(p, index)
			for have := range len(ways) + 1 {
				w := formatted(t, p, 3)
				o := w.begin()
				w.born(o, 1)
				w.leave(o, have)
				before := w.used(o)
				b, fresh, e := w.u.Make(o, 1, index)
				if have == len(ways) {
					if b == 0 || !fresh || e != api.OK {
						t.Errorf("Make %d: %d, %v, %d", index, b, fresh, e)
					}
				} else {
					wantNumber(t, fmt.Sprint("Make ", index), b, e, 0, api.ErrNoSpace)
					wantNumber(t, "fresh", fresh, e, false, api.ErrNoSpace)
					w.wantFind(o, 1, index, 0)
				}
				taken := upTo(p.Blocks-have, p.Blocks)
				w.wantUsed(o, upTo(p.Data, p.Blocks))
				_, pointers, e := w.u.Blocks(o, 1)
				if with := taken[:min(have, len(ways)-1)]; !slices.Equal(pointers, with) || e != api.OK {
					t.Errorf("Make %d with %d blocks: pointers %v, should be %v", index, have, pointers, with)
				}
				for _, b := range pointers {
					if data := w.read(o, b); b == p.Blocks-1 && !bytes.Equal(data, make([]byte, p.Block)) {
						t.Error("the last block with pointers that was taken does not begin with bytes 0")
					}
				}
				want(t, "Cut", w.u.Cut(o, 1, 0), api.OK)
				w.wantUsed(o, before)
				w.wantInode(o, 1, api.Inode{Kind: 1, Links: 1})
				if t.Failed() {
					t.Fatal(p, index, have)
				}
			}
		}
	}
}

// TestNoSpaceGoesOn: P13.2, a Make that found no space, run again where there is some, takes the rest alone.
func TestNoSpaceGoesOn(t *testing.T) {
	p := planned(t, 64, 100, 10, 30)
	w := formatted(t, p, 3)
	o := w.begin()
	w.born(o, 2)
	w.born(o, 3)
	w.make(o, 3, 0)
	w.leave(o, 2)
	w.end(o)
	w.settle()
	o = w.begin()
	b, _, e := w.u.Make(o, 2, 500)
	wantNumber(t, "Make", b, e, 0, api.ErrNoSpace)
	want(t, "Cut", w.u.Cut(o, 3, 0), api.OK)
	// What was freed is kept till a Commit.
	b, _, e = w.u.Make(o, 2, 500)
	wantNumber(t, "Make", b, e, 0, api.ErrNoSpace)
	w.end(o)
	w.commit()
	o = w.begin()
	b, fresh, e := w.u.Make(o, 2, 500)
	wantNumber(t, "Make", b, e, p.Data, api.OK)
	wantNumber(t, "Make", fresh, e, true, api.OK)
	w.wantBlocks(o, 2, append(make([]int, 500), p.Data), []int{98, 99})
}

// TestFind: P13.2, a hole is 0 wherever the way ends: in the inode, in Single, in Double, and in what it names. Find takes and writes nothing.
func TestFind(t *testing.T) {
	for _, p := range plans(t)[1:] {
		w := formatted(t, p, 2)
		o := w.begin()
		w.born(o, 1)
		per := p.Block / 2
		made := inFile(p, []int{3, 8, 8 + per + per + 1})
		for _, index := range made {
			w.make(o, 1, index)
		}
		w.end(o)
		w.settle()
		o = w.begin()
		for index := range most(p) {
			b, e := w.u.Find(o, 1, index)
			if has := slices.Contains(made, index); (b != 0) != has || e != api.OK {
				t.Errorf("Find %d: %d, %d", index, b, e)
			}
		}
		w.wantNothing("Find", o, nil)
	}
}

// TestAnyPointers: P13.2, blocks with pointers of all kinds of bytes: Find answers what stands at the end of the way, be it a block or not; on the way a number that is no block is ErrRange.
func TestAnyPointers(t *testing.T) {
	p := planned(t, 64, 100, 10, 30)
	w := formatted(t, p, 3)
	o := w.begin()
	for _, n := range []int{1, 99, 100, 101, 65535} {
		w.put(o, 2, api.Inode{Kind: 1, Direct: [8]int{7: n}, Single: 50, Double: 51})
		data := make([]byte, 64)
		for k := range 32 {
			binary.LittleEndian.PutUint16(data[2*k:], uint16(n))
		}
		want(t, "Write", o.Write(50, data), api.OK)
		want(t, "Write", o.Write(51, data), api.OK)
		for _, index := range []int{7, 8, 39} {
			w.wantFind(o, 2, index, n)
			b, fresh, e := w.u.Make(o, 2, index)
			wantNumber(t, "Make", b, e, n, api.OK)
			wantNumber(t, "Make", fresh, e, false, api.OK)
		}
		b, e := w.u.Find(o, 2, 1063)
		if n >= 100 {
			wantNumber(t, "Find", b, e, 0, api.ErrRange)
			b, _, e = w.u.Make(o, 2, 1063)
			wantNumber(t, "Make", b, e, 0, api.ErrRange)
		} else if last := binary.LittleEndian.Uint16(w.read(o, n)[62:]); true {
			wantNumber(t, "Find", b, e, int(last), api.OK)
		}
	}
	w.wantUsed(o, nil)
	// Single may be a block that the log does not carry: what is to be named there is taken ahead of the error.
	w.put(o, 2, api.Inode{Kind: 1, Single: 1})
	b, fresh, e := w.u.Make(o, 2, 39)
	wantNumber(t, "Make", b, e, 0, api.ErrRange)
	wantNumber(t, "Make", fresh, e, false, api.ErrRange)
	w.wantUsed(o, []int{p.Data})
	// Single may be a block of the bitmap: the bit of what is taken stays 1 there.
	w.put(o, 2, api.Inode{Kind: 1, Single: p.BBits})
	b, fresh, e = w.u.Make(o, 2, 39)
	if b != p.Data+1 || !fresh || e != api.OK || !slices.Contains(w.used(o), b) {
		t.Error("Make by a block of the bitmap:", b, fresh, e)
	}
}

// TestNothingKept: R5, what is told stands on the device alone: several Tables of one Alloc, of several Allocs, and new ones, tell the same.
func TestNothingKept(t *testing.T) {
	p := planned(t, 64, 200, 20, 40)
	w := formatted(t, p, 2)
	a, _ := alloc.New(w.g, p)
	second, _ := inode.New(w.a, p)
	third, _ := inode.New(a, p)
	o := w.begin()
	for n := range 40 {
		fourth, _ := inode.New(a, p)
		list := []*inode.Table{w.u, second, third, fourth}
		u := list[n%4]
		want(t, "Put", u.Put(o, n%8, api.Inode{Kind: 1, Links: n}), api.OK)
		b, fresh, e := u.Make(o, n%8, n)
		if !fresh || e != api.OK {
			t.Error("Make:", b, fresh, e)
		}
		for _, v := range list {
			c, e := v.Find(o, n%8, n)
			wantNumber(t, "Find", c, e, b, api.OK)
			c, fresh, e := v.Make(o, n%8, n)
			wantNumber(t, "Make", c, e, b, api.OK)
			wantNumber(t, "Make", fresh, e, false, api.OK)
			x, e := v.Get(o, n%8)
			wantNumber(t, "Get", x, e, w.get(o, n%8), api.OK)
		}
	}
}
