package file_test

import (
	"bytes"
	"fmt"
	"math"
	"slices"
	"testing"

	"skerry/alloc"
	"skerry/api"
	"skerry/file"
	"skerry/group"
	"skerry/inode"
)

// call is one of the package's, by a name, with its numbers: how many bytes are read or written, and where; where is the size of a Truncate.
type call struct {
	name     string
	i, at, n int
}

// run does a call, and answers its error; all else beside one must be zero.
func (c call) run(t *testing.T, o *group.Op, u *inode.Table, p api.Plan) api.Errno {
	t.Helper()
	var e api.Errno
	left := 0
	switch c.name {
	case "Read":
		var data []byte
		data, e = file.Read(o, u, p, c.i, c.at, c.n)
		left = len(data)
	case "Write":
		e = file.Write(o, u, p, c.i, c.at, text(c.n, 1))
	case "Truncate":
		e = file.Truncate(o, u, p, c.i, c.at)
	case "Dirty":
		var list []int
		list, e = file.Dirty(o, u, c.i)
		left = len(list)
	}
	if e != api.OK && left != 0 {
		t.Errorf("%v: not all is zero beside the error %d", c, e)
	}
	return e
}

// calls answers calls of all kinds on inode i, with numbers that are allowed.
func calls(p api.Plan, i int) []call {
	list := []call{{"Dirty", i, 0, 0}, {"Read", i, math.MaxInt, 4096}, {"Read", i, math.MaxInt, 0}}
	for _, at := range inFile(p, edges(p)) {
		list = append(list, call{"Truncate", i, at, 0})
		for _, n := range lengths(p) {
			list = append(list, call{"Read", i, at, n})
			if at+n <= most(p) {
				list = append(list, call{"Write", i, at, n})
			}
		}
	}
	return list
}

// refused answers calls on inode i whose numbers are not allowed, with their errors: ErrArg comes ahead of ErrLarge.
func refused(p api.Plan, i int) map[call]api.Errno {
	list := map[call]api.Errno{}
	lengths := []int{0, 1, p.Block, 4096, 4097, 9999}
	for _, at := range below {
		list[call{"Truncate", i, at, 0}] = api.ErrArg
		for _, n := range lengths {
			list[call{"Write", i, at, n}] = api.ErrArg
		}
		for _, n := range slices.Concat(lengths, below, above) {
			list[call{"Read", i, at, n}] = api.ErrArg
			list[call{"Read", i, max(n, 0), at}] = api.ErrArg
		}
	}
	for _, at := range slices.Concat([]int{0, 1, p.Block, most(p) - 1, most(p), most(p) + 1}, above) {
		for _, n := range []int{4097, 9999, math.MaxInt - 1, math.MaxInt} {
			list[call{"Read", i, at, n}] = api.ErrLarge
			if n <= 9999 {
				list[call{"Write", i, at, n}] = api.ErrLarge
			}
		}
	}
	for _, n := range lengths {
		for _, at := range append([]int{most(p) - n + 1, most(p) + 1}, above...) {
			list[call{"Write", i, at, n}] = api.ErrLarge
			if at > most(p) {
				list[call{"Truncate", i, at, 0}] = api.ErrLarge
			}
		}
	}
	return list
}

// ops answers operations that do nothing any more, each with its error: none, one that has ended, one that was given up, one that no group began.
func (w *world) ops() map[*group.Op]api.Errno {
	w.t.Helper()
	ended, given := w.begin(), (*group.Op)(nil)
	w.end(ended)
	given = w.begin()
	w.abort(given)
	return map[*group.Op]api.Errno{nil: api.ErrArg, ended: api.ErrOver, given: api.ErrOver, {}: api.ErrOver}
}

// TestNumbersFirst: P14.1 to P14.3, with R2: ErrArg and ErrLarge of numbers come ahead of all other errors, and nothing has changed behind them.
func TestNumbersFirst(t *testing.T) {
	for _, p := range plans(t) {
		w, o := pair(t, p)
		w.write(o, 1, p.Block-3, text(9, 1))
		w.end(o)
		w.settle()
		ops := w.ops()
		o = w.begin()
		ops[o] = api.OK
		s := w.seen(o)
		for _, i := range []int{1, 2, 3, p.Inodes - 1, p.Inodes, -1, 0, math.MinInt, math.MaxInt} {
			for c, e := range refused(p, i) {
				for o := range ops {
					want(t, fmt.Sprint(c), c.run(t, o, w.u, p), e)
					want(t, fmt.Sprint(c, " without a Table"), c.run(t, o, nil, p), e)
				}
			}
			if t.Failed() {
				t.Fatal(p, i)
			}
		}
		w.wantSeen("calls that were refused", o, s)
		w.wantNothing("calls that were refused", o, nil, nil)
	}
}

// TestLargest: P14.2, P14.3: what ends just at the greatest size is allowed, one byte more is not.
func TestLargest(t *testing.T) {
	for _, p := range plans(t) {
		for _, i := range []int{1, 2} {
			for _, n := range lengths(p) {
				w, o := pair(t, p)
				want(t, "Write", file.Write(o, w.u, p, i, most(p)-n+1, text(n, 1)), api.ErrLarge)
				want(t, "Write", file.Write(o, w.u, p, i, most(p)-n, text(n, 1)), api.OK)
				if size := w.get(o, i).Size; n > 0 && size != most(p) {
					t.Error("Size:", size)
				}
				w.wantRead(o, i, most(p)-n, 4096, text(n, 1))
				want(t, "Truncate", file.Truncate(o, w.u, p, i, most(p)+1), api.ErrLarge)
				want(t, "Truncate", file.Truncate(o, w.u, p, i, most(p)), api.OK)
				w.wantRead(o, i, most(p)-n, 4096, text(n, 1))
				if size := w.get(o, i).Size; size != most(p) {
					t.Error("Size:", size)
				}
			}
			if t.Failed() {
				t.Fatal(p, i)
			}
		}
	}
}

// TestNilTable: every call of a nil Table is ErrArg, whatever the operation and the inode.
func TestNilTable(t *testing.T) {
	p := planned(t, 64, 200, 10, 90)
	w, o := pair(t, p)
	w.end(o)
	ops := w.ops()
	ops[w.begin()] = api.OK
	for o := range ops {
		for _, i := range []int{-1, 0, 1, 2, 9, 10, math.MinInt, math.MaxInt} {
			for _, c := range calls(p, i) {
				want(t, fmt.Sprint(c), c.run(t, o, nil, p), api.ErrArg)
			}
		}
	}
}

// TestInodeFirst: R2: ErrRange of an inode that is none comes ahead of the operation's errors, as the table tells them; then these; then that an inode is free, or can't be read. Nothing has changed behind them.
func TestInodeFirst(t *testing.T) {
	for _, p := range plans(t)[:5] {
		w, o := pair(t, p)
		w.end(o)
		w.settle()
		// The last inode can't be read.
		at := p.Table + p.TLen - 1
		data, e := w.d.Read(at)
		want(t, "device.Read", e, api.OK)
		data[(p.Inodes-1)*32%p.Block] = 7
		want(t, "Load", w.d.Load(at, data), api.OK)
		w = mounted(t, w.d, p, 4)
		for o, e := range w.ops() {
			for _, i := range []int{0, 1, 2, 3, p.Inodes - 1} {
				for _, c := range calls(p, i) {
					want(t, fmt.Sprint(c), c.run(t, o, w.u, p), e)
				}
			}
			for _, i := range slices.Concat([]int{p.Inodes}, below, above) {
				for _, c := range calls(p, i)[:60] {
					want(t, fmt.Sprint(c), c.run(t, o, w.u, p), api.ErrRange)
				}
			}
		}
		o = w.begin()
		s := w.seen(o)
		for i, e := range map[int]api.Errno{0: api.ErrNone, 3: api.ErrNone, p.Inodes - 1: api.ErrCorrupt, p.Inodes: api.ErrRange, -1: api.ErrRange, math.MinInt: api.ErrRange, math.MaxInt: api.ErrRange} {
			for _, c := range calls(p, i) {
				want(t, fmt.Sprint(c), c.run(t, o, w.u, p), e)
			}
		}
		w.wantSeen("calls that were refused", o, s)
		w.wantNothing("calls that were refused", o, nil, nil)
		if t.Failed() {
			t.Fatal(p)
		}
	}
}

// TestAnyInode: files stand in any inode, the first one and the last one too.
func TestAnyInode(t *testing.T) {
	for _, p := range plans(t) {
		w := formatted(t, p, 3)
		o := w.begin()
		for _, i := range []int{0, 1, p.Inodes - 1} {
			w.born(o, i, api.KindFile)
		}
		for _, i := range []int{0, 1, p.Inodes - 1} {
			w.write(o, i, p.Block-2, text(min(4096, 3*p.Block), i))
		}
		for _, i := range []int{0, 1, p.Inodes - 1} {
			w.wantAll(o, i, append(make([]byte, p.Block-2), text(min(4096, 3*p.Block), i)...))
		}
	}
}

// TestOverWhileOpen: an operation that is over does not reach the one that is open.
func TestOverWhileOpen(t *testing.T) {
	p := planned(t, 64, 200, 10, 90)
	w, elder := pair(t, p)
	w.write(elder, 1, 0, text(300, 1))
	w.write(elder, 2, 0, text(300, 2))
	w.end(elder)
	o := w.begin()
	w.write(o, 1, 30, text(10, 3))
	s := w.seen(o)
	for _, i := range []int{1, 2, 3} {
		for _, c := range calls(p, i) {
			want(t, fmt.Sprint(c), c.run(t, elder, w.u, p), api.ErrOver)
		}
	}
	w.wantSeen("an operation that is over", o, s)
}

// TestUnsoundPointers: R6: a file that names blocks which are none, or none of files, is answered the operation's ErrRange where such a block is asked for, and nothing has changed then.
func TestUnsoundPointers(t *testing.T) {
	p := planned(t, 64, 200, 10, 90)
	for kind, list := range map[int][]int{
		api.KindFile: {1, p.IBits, p.BBits, p.Table, p.Data - 1, p.Blocks, p.Blocks + 1, 65535},
		api.KindDir:  {1, p.IBits - 1, p.Blocks, 65535},
	} {
		for _, bad := range list {
			for _, at := range []int{0, 1, 3} {
				w, o := pair(t, p)
				w.write(o, kind, 0, text(250, 1))
				x := w.get(o, kind)
				x.Direct[at] = bad
				w.put(o, kind, x)
				w.end(o)
				w.settle()
				o = w.begin()
				s := w.seen(o)
				wanted := api.OK
				if bad >= p.Blocks {
					wanted = api.ErrRange
				}
				_, e := file.Read(o, w.u, p, kind, 0, 250)
				want(t, "Read", e, wanted)
				w.wantRead(o, kind, (at^1)*64, 50, text(250, 1)[(at^1)*64:(at^1)*64+50])
				for place, n := range map[int]int{at * 64: 64, at*64 + 1: 1, at*64 - 1: 300, at*64 - 60: 4000, at * 64 / 2: 800} {
					want(t, "Write", file.Write(o, w.u, p, kind, max(0, place), text(n, 2)), api.ErrRange)
				}
				if at == 3 {
					// Its last block must be blanked.
					want(t, "Write", file.Write(o, w.u, p, kind, 400, text(300, 2)), api.ErrRange)
					want(t, "Truncate", file.Truncate(o, w.u, p, kind, 400), api.ErrRange)
				}
				want(t, "Truncate", file.Truncate(o, w.u, p, kind, at*64+1), api.ErrRange)
				w.wantSeen("calls that were refused", o, s)
				w.wantNothing("calls that were refused", o, nil, nil)
				if t.Failed() {
					t.Fatalf("kind %d, number %d is %d", kind, at, bad)
				}
			}
		}
	}
}

// TestTableAsDirectory: a directory's block may be any that the operation writes through the log: what it answers is the answer.
func TestTableAsDirectory(t *testing.T) {
	p := planned(t, 64, 200, 10, 90)
	w, o := pair(t, p)
	w.put(o, 2, api.Inode{Kind: api.KindDir, Size: 64, Direct: [8]int{p.Data - 1}})
	w.write(o, 2, 40, []byte("ab"))
	w.truncate(o, 2, 41)
	if got, e := o.Read(p.Data - 1); got[40] != 'a' || got[41] != 0 || e != api.OK {
		t.Error("Read:", got, e)
	}
	w.write(o, 2, 0, make([]byte, 64))
}

// TestUnsoundPlan: R1, R6: with a plan that is not sound, all is answered without a panic, and what is refused has changed nothing.
func TestUnsoundPlan(t *testing.T) {
	p := planned(t, 64, 200, 10, 90)
	w, o := pair(t, p)
	w.write(o, 1, 0, text(300, 1))
	w.write(o, 2, 0, text(300, 1))
	s := w.seen(o)
	for _, q := range unsound(p) {
		for _, i := range []int{1, 2, 3, -1, 10} {
			for _, c := range calls(p, i) {
				e := c.run(t, o, w.u, q)
				if e == api.OK && (i < 1 || i > 2) {
					t.Errorf("%v: done, with the plan %v", c, q)
				}
				if e == api.OK && c.name != "Dirty" && c.name != "Read" {
					s = w.seen(o)
				}
				if c.run(t, o, nil, q) == api.OK {
					t.Errorf("%v: done without a Table, with the plan %v", c, q)
				}
			}
		}
		if t.Failed() {
			t.Fatal(q)
		}
	}
	w.wantSeen("calls with plans that are not sound", o, s)
}

// callAll calls all, for no panic.
func callAll(t *testing.T, o *group.Op, u *inode.Table, p api.Plan) {
	t.Helper()
	for _, i := range []int{math.MinInt, -1, 0, 1, 2, p.Inodes - 1, p.Inodes, math.MaxInt} {
		for _, at := range []int{math.MinInt, -1, 0, 1, 63, 64, 600, 2560, 5000, 68095, 68096, 524287, 524288, 524289, math.MaxInt} {
			for _, n := range []int{math.MinInt, -1, 0, 1, 64, 100, 4096, 4097, math.MaxInt} {
				file.Read(o, u, p, i, at, n)
				if n >= 0 && n <= 4097 {
					file.Write(o, u, p, i, at, make([]byte, n))
				}
			}
			file.Truncate(o, u, p, i, at)
		}
		file.Dirty(o, u, i)
	}
}

// TestOddObjects: R1: objects that no call has made, and objects of several groups and plans, answer something, without a panic.
func TestOddObjects(t *testing.T) {
	all := append(plans(t), planned(t, 64, 10, 2, 4), planned(t, 4096, 180, 128, 9))
	callAll(t, nil, nil, api.Plan{})
	callAll(t, nil, &inode.Table{}, all[2])
	callAll(t, &group.Op{}, &inode.Table{}, all[2])
	for _, p := range all {
		for _, q := range all {
			w := formatted(t, p, 2)
			o := w.begin()
			for i := range min(3, p.Inodes) {
				w.born(o, i, 1+i%2)
			}
			w.end(o)
			a, e := alloc.New(w.g, q)
			want(t, "alloc.New", e, api.OK)
			for _, some := range []*alloc.Alloc{a, w.a, {}} {
				u, e := inode.New(some, q)
				want(t, "inode.New", e, api.OK)
				for _, table := range []*inode.Table{u, w.u, {}} {
					o := w.begin()
					callAll(t, o, table, q)
					callAll(t, nil, table, q)
					w.abort(o)
				}
			}
		}
	}
}

// TestAnyBytes: R1, R6: whatever stands on a device, calls answer something, without a panic; what Read answers, it answers again.
func TestAnyBytes(t *testing.T) {
	x := dice(77)
	for round := range 60 {
		n := [][4]int{{64, 60, 9, 8}, {64, 100, 10, 30}, {128, 60, 30, 6}, {256, 40, 5, 4}, {64, 600, 20, 40}}[round%5]
		p := planned(t, n[0], n[1], n[2], n[3])
		w := formatted(t, p, 1+x.below(9))
		for b := p.IBits; b < p.Blocks; b++ {
			want(t, "Load", w.d.Load(b, anyBlock(p, &x, b)), api.OK)
		}
		w = mounted(t, w.d, p, 1+x.below(9), x.picks(40)...)
		o := w.begin()
		for range 100 {
			i, at, n := x.below(p.Inodes), x.below(most(p)), x.below(4097)
			first, e := file.Read(o, w.u, p, i, at, n)
			again, f := file.Read(o, w.u, p, i, at, n)
			if !bytes.Equal(first, again) || e != f {
				t.Errorf("Read: %v, %d, then %v, %d", first, e, again, f)
			}
			file.Write(o, w.u, p, i, at, text(n, round))
			file.Write(o, w.u, p, i, x.below(900), text(x.below(200), round))
			file.Dirty(o, w.u, i)
			if x.below(3) == 0 {
				file.Truncate(o, w.u, p, i, at)
			}
		}
	}
}

// anyBlock answers a block of chance: of the table with inodes that can be read, of others with pointers that may be blocks.
func anyBlock(p api.Plan, x *dice, b int) []byte {
	data := make([]byte, p.Block)
	table := b >= p.Table && b < p.Data
	for i := range data {
		switch x.below(4) {
		case 0:
			data[i] = byte(x.below(256))
		case 1:
			data[i] = byte(x.below(p.Blocks))
		}
		if i%2 == 1 && x.below(9) != 0 {
			data[i] = byte(x.below(p.Blocks/256 + 1))
		}
		switch {
		case table && i%32 == 0:
			data[i] = byte(1 + x.below(2))
		case table && (i%32 == 1 || i%32 >= 28):
			data[i] = 0
		case table && (i%32 == 6 || i%32 == 7):
			// Sizes that are too great for a file are rare.
			data[i] = byte(x.below(2) * x.below(2) * x.below(2) * x.below(200))
		}
	}
	return data
}
