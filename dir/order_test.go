package dir_test

import (
	"fmt"
	"math"
	"slices"
	"testing"

	"skerry/alloc"
	"skerry/api"
	"skerry/dir"
	"skerry/group"
	"skerry/inode"
)

// call is one of the package's, by a name, with its directory, its name and its inode.
type call struct {
	what string
	d    int
	name string
	i    int
}

// run does a call, and answers its error; all else beside one must be zero.
func (c call) run(t *testing.T, o *group.Op, u *inode.Table, p api.Plan) api.Errno {
	t.Helper()
	var e api.Errno
	left := 0
	switch c.what {
	case "Find":
		left, e = dir.Find(o, u, p, c.d, c.name)
	case "Insert":
		e = dir.Insert(o, u, p, c.d, c.name, c.i)
	case "Remove":
		e = dir.Remove(o, u, p, c.d, c.name)
	case "List":
		var list []api.Dirent
		list, e = dir.List(o, u, p, c.d)
		left = len(list)
	case "Set":
		e = dir.Set(o, u, p, c.d, c.name, c.i)
	}
	if e != api.OK && left != 0 {
		t.Errorf("%v: not all is zero beside the error %d", c, e)
	}
	return e
}

// calls answers calls of all kinds on directory d, with names and inodes that are allowed.
func calls(d int, names ...string) []call {
	list := []call{{"List", d, "", 0}}
	for _, name := range names {
		list = append(list, call{"Find", d, name, 0}, call{"Remove", d, name, 0})
		for _, i := range []int{1, 65535} {
			list = append(list, call{"Insert", d, name, i}, call{"Set", d, name, i})
		}
	}
	return list
}

// refused answers calls on directory d whose names or inodes are not allowed, with their errors: ErrName comes ahead of ErrValue.
func refused(d int) map[call]api.Errno {
	list := map[call]api.Errno{}
	bad := []string{"", ".", "..", "fourteen-bytes", "A", "a/b", "a\x00"}
	numbers := slices.Concat(below, []int{0, 1, 65535}, above)
	for _, name := range bad {
		list[call{"Find", d, name, 0}] = api.ErrName
		list[call{"Remove", d, name, 0}] = api.ErrName
		for _, i := range numbers {
			list[call{"Insert", d, name, i}] = api.ErrName
			list[call{"Set", d, name, i}] = api.ErrName
		}
	}
	for _, name := range []string{"a", "there", "not-there", "thirteen-long"} {
		for _, i := range slices.Concat(below, []int{0}, above) {
			list[call{"Insert", d, name, i}] = api.ErrValue
			list[call{"Set", d, name, i}] = api.ErrValue
		}
	}
	return list
}

// mixed answers a device on which inode 0 is free, 1 a file that could be a directory but for its Kind, 2 a directory with the name there, 3 one whose Size is odd, 4 one that has 16 bytes which are no name; the last inode can't be read.
func mixed(t *testing.T, p api.Plan) *world {
	t.Helper()
	w, o := founded(t, p, 4)
	w.write(o, 1, 0, pageOf(3).bytes())
	w.insert(o, 2, "there", 9)
	w.put(o, 3, api.Inode{Kind: api.KindDir, Size: 9})
	w.put(o, 4, api.Inode{Kind: api.KindDir, Size: 16})
	w.end(o)
	w.settle()
	at := p.Table + p.TLen - 1
	data, e := w.d.Read(at)
	want(t, "device.Read", e, api.OK)
	data[(p.Inodes-1)*32%p.Block] = 7
	want(t, "Load", w.d.Load(at, data), api.OK)
	return mounted(t, w.d, p, 4)
}

// TestNamesFirst: P15.1 to P15.3, with R2: ErrName, then ErrValue, come ahead of all other errors, and nothing has changed behind them.
func TestNamesFirst(t *testing.T) {
	for _, p := range []api.Plan{planned(t, 64, 500, 10, 200), planned(t, 256, 200, 100, 80)} {
		w := mixed(t, p)
		ops := w.ops()
		o := w.begin()
		ops[o] = api.OK
		s := w.seen(o)
		for _, d := range []int{0, 1, 2, 3, 4, p.Inodes - 1, p.Inodes, -1, math.MinInt, math.MaxInt} {
			for c, e := range refused(d) {
				for o := range ops {
					want(t, fmt.Sprint(c), c.run(t, o, w.u, p), e)
					want(t, fmt.Sprint(c, " without a Table"), c.run(t, o, nil, p), e)
					want(t, fmt.Sprint(c, " without a plan"), c.run(t, o, w.u, api.Plan{}), e)
				}
			}
			if t.Failed() {
				t.Fatal(p, d)
			}
		}
		w.wantSeen("calls that were refused", o, s)
		w.wantNothing("calls that were refused", o)
	}
}

// TestNilTable: every call of a nil Table is ErrArg, whatever the operation and the directory.
func TestNilTable(t *testing.T) {
	p := planned(t, 64, 500, 10, 200)
	w := mixed(t, p)
	ops := w.ops()
	ops[w.begin()] = api.OK
	for o := range ops {
		for _, d := range []int{-1, 0, 1, 2, 3, 4, 9, 10, math.MinInt, math.MaxInt} {
			for _, c := range calls(d, "there", "new") {
				want(t, fmt.Sprint(c), c.run(t, o, nil, p), api.ErrArg)
			}
		}
	}
}

// TestInodeFirst: R2: ErrRange of an inode that is none comes ahead of the operation's errors, as the table tells them; then these; then that an inode can't be read, is free, is no directory, is unsound; then what becomes of the name. Nothing has changed behind them.
func TestInodeFirst(t *testing.T) {
	for _, p := range plans(t)[:5] {
		if p.Inodes < 6 {
			p = planned(t, p.Block, p.Blocks, 6, p.Log)
		}
		w := mixed(t, p)
		for o, e := range w.ops() {
			for _, d := range []int{0, 1, 2, 3, 4, p.Inodes - 1} {
				for _, c := range calls(d, "there", "new") {
					want(t, fmt.Sprint(c), c.run(t, o, w.u, p), e)
				}
			}
			for _, d := range slices.Concat([]int{p.Inodes, p.Inodes + 1}, below, above) {
				for _, c := range calls(d, "there", "new") {
					want(t, fmt.Sprint(c), c.run(t, o, w.u, p), api.ErrRange)
				}
			}
		}
		o := w.begin()
		s := w.seen(o)
		for d, e := range map[int]api.Errno{
			0: api.ErrNone, 1: api.ErrNotDir, 3: api.ErrCorrupt, 4: api.ErrCorrupt,
			p.Inodes - 1: api.ErrCorrupt, p.Inodes: api.ErrRange, -1: api.ErrRange, math.MinInt: api.ErrRange, math.MaxInt: api.ErrRange,
		} {
			for _, c := range calls(d, "there", "new", nameOf(0)) {
				want(t, fmt.Sprint(c), c.run(t, o, w.u, p), e)
			}
		}
		for c, e := range map[call]api.Errno{
			{"Insert", 2, "there", 1}: api.ErrExists, {"Insert", 2, "there", 9}: api.ErrExists, {"Set", 2, "new", 1}: api.ErrNone, {"Remove", 2, "new", 0}: api.ErrNone, {"Find", 2, "new", 0}: api.ErrNone,
		} {
			want(t, fmt.Sprint(c), c.run(t, o, w.u, p), e)
		}
		w.wantSeen("calls that were refused", o, s)
		w.wantNothing("calls that were refused", o)
		if t.Failed() {
			t.Fatal(p)
		}
	}
}

// TestFiles: what is a file is ErrNotDir, whatever its bytes and its Size are.
func TestFiles(t *testing.T) {
	p := planned(t, 64, 500, 10, 200)
	for _, size := range []int{0, 1, 15, 16, 17, 48, 64, 100, 4096, 68096, 68097, math.MaxUint32} {
		w, o := founded(t, p, 3)
		w.write(o, 1, 0, pageOf(4).bytes())
		x := w.get(o, 1)
		x.Size = size
		w.put(o, 1, x)
		s := w.seen(o)
		for _, c := range calls(1, "new", nameOf(0)) {
			want(t, fmt.Sprint(c), c.run(t, o, w.u, p), api.ErrNotDir)
		}
		w.wantSeen("calls on a file", o, s)
	}
}

// TestOverWhileOpen: an operation that is over does not reach the one that is open.
func TestOverWhileOpen(t *testing.T) {
	p := planned(t, 64, 500, 10, 200)
	w, elder := founded(t, p, 3)
	w.insert(elder, 2, "there", 4)
	w.end(elder)
	o := w.begin()
	w.insert(o, 2, "other", 5)
	s := w.seen(o)
	for _, d := range []int{0, 1, 2, 3} {
		for _, c := range calls(d, "there", "other", "new") {
			want(t, fmt.Sprint(c), c.run(t, elder, w.u, p), api.ErrOver)
		}
	}
	w.wantSeen("an operation that is over", o, s)
	w.wantPage(o, 2, page{{Inode: 4, Name: "there"}, {Inode: 5, Name: "other"}})
}

// TestUnsoundPlan: R1, R6: with a plan that is not sound, all is answered without a panic, and nothing has changed.
func TestUnsoundPlan(t *testing.T) {
	p := planned(t, 64, 500, 10, 200)
	w, o := founded(t, p, 3)
	w.lay(o, 2, pageOf(30))
	s := w.seen(o)
	for _, q := range unsound(p) {
		for d, e := range map[int]api.Errno{0: api.ErrNone, 1: api.ErrNotDir, 2: api.ErrForm, 3: api.ErrForm, -1: api.ErrRange, 10: api.ErrRange} {
			for _, c := range calls(d, "new", nameOf(0), nameOf(29)) {
				want(t, fmt.Sprint(c), c.run(t, o, w.u, q), e)
				want(t, fmt.Sprint(c, " without a Table"), c.run(t, o, nil, q), api.ErrArg)
			}
		}
		if t.Failed() {
			t.Fatal(q)
		}
	}
	w.wantSeen("calls with plans that are not sound", o, s)
}

// callAll calls all, for no panic.
func callAll(t *testing.T, o *group.Op, u *inode.Table, p api.Plan) {
	t.Helper()
	for _, d := range []int{math.MinInt, -1, 0, 1, 2, p.Inodes - 1, p.Inodes, math.MaxInt} {
		for _, name := range []string{"", "..", nameOf(0), nameOf(5), nameOf(70), "new", "longer-than-13"} {
			for _, i := range []int{math.MinInt, 0, 1, 65535, math.MaxInt} {
				for _, what := range []string{"Find", "List", "Set", "Insert", "Remove"} {
					call{what, d, name, i}.run(t, o, u, p)
				}
			}
		}
	}
}

// TestOddObjects: R1: objects that no call has made, and objects of several groups and plans, answer something, without a panic.
func TestOddObjects(t *testing.T) {
	all := append(plans(t), planned(t, 64, 10, 2, 4), planned(t, 4096, 180, 128, 9))
	callAll(t, nil, nil, api.Plan{})
	callAll(t, nil, &inode.Table{}, all[2])
	callAll(t, &group.Op{}, &inode.Table{}, all[2])
	for _, p := range all {
		w := formatted(t, p, 2)
		o := w.begin()
		for d := range min(3, p.Inodes) {
			w.born(o, d, api.KindDir)
			w.lay(o, d, pageOf(min(100, (p.Blocks-p.Data)/4*p.Block/16)))
		}
		w.end(o)
		for _, q := range all {
			a, e := alloc.New(w.g, q)
			want(t, "alloc.New", e, api.OK)
			for _, some := range []*alloc.Alloc{a, w.a, {}} {
				u, e := inode.New(some, q)
				want(t, "inode.New", e, api.OK)
				for _, table := range []*inode.Table{u, w.u, {}} {
					o := w.begin()
					callAll(t, o, table, q)
					callAll(t, nil, table, q)
					w.abort(o)
				}
			}
		}
	}
}
